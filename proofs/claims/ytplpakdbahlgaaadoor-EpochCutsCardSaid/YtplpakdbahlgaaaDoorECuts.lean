/-
  The law of a region that draws its order, with guards that themselves were passed over: such an operation is passed over, too. Not of any one program.
  EpochCuts, walked.
  EpochCuts: P9.2, for every argument: cut at its end, offsets ahead are of the epochs they were of; cut at its start, offsets from there on are as they were. Conditions: none but those of the given row.
-/
import Derived.Test.YtplpakdbahlgaaaDoorE4
import Derived.Test.YtplpakdbahlgaaaDoorE3
import Derived.Deep.LoopGhost
import Derived.Test.YtplpakdbahlgaaaDoorE5
namespace Go.Proofs.YtplpakdbahlgaaaDoor
open Go Go.RowKit

def OpGuardU (P : Program) (ev : Operand → Value) (o : Oper) (dj : Nat → Nat) (w1 : World) (Post : Value → World → Prop) : Prop :=
  match o.guard with
  | none => OpRuns P ev o w1 Post
  | some (j, b) => (∃ c, ev (.tmp (dj j)) = .bool c ∧ (c = b → OpRuns P ev o w1 Post) ∧ (c ≠ b → Post undef w1)) ∨ (ev (.tmp (dj j)) = undef ∧ Post undef w1)

theorem wpAny_guardU {P : Program} {ops : Array Oper} {Q : Exit → Act → World → Prop} {D : Nat → Value → World → Prop} {G : World → World → Prop} (hG : Goes G) {a : Act} {w : World} (hB : guardAll ops = true)
    (hfit : ∀ d ∈ dstsAll ops, d < a.tmps.size)
    (stable : ∀ d v w1 w2, D d v w1 → G w1 w2 → D d v w2)
    (step : ∀ i o, ops[i]? = some o → ∀ (ev : Operand → Value) w1, G w w1 → (∀ x, (∀ d ∈ dstsAll ops, x ≠ .tmp d) → ev x = a.eval x) →
      (∀ e ∈ o.after.toList, Region.binds .any e = true → D (dstOf ops e.on) (ev (.tmp (dstOf ops e.on))) w1) → OpGuardU P ev o (dstOf ops) w1 fun v w2 => G w1 w2 ∧ D (dstOf ops i) v w2)
    (last : ∀ f w1, G w w1 → (∀ d ∈ dstsAll ops, D d (f d) w1) → Q .normal (puts a f (dstsAll ops)) w1) :
    ∀ (fuel : Nat) (listed : Array Bool) (a' : Act) (w' : World), listed.size = ops.size → todo listed = fuel → MidstG G ops D a w listed a' w' → wpAny P .any ops Q fuel listed a' w' := by
  have hB' := hB
  simp only [guardAll, Bool.and_eq_true, decide_eq_true_eq, List.all_eq_true, List.mem_range] at hB'
  obtain ⟨hall, hnd⟩ := hB'
  have form : ∀ (i : Nat) (o : Oper), ops[i]? = some o → (∀ j b, o.guard = some (j, b) → j < i ∧ ∃ e ∈ o.after.toList, e.on = j ∧ Region.binds .any e = true) ∧ (∀ e ∈ o.after.toList, e.on < i) ∧ o.dst.isSome = true := by
    intro i o ho
    have hi : i < ops.size := (Array.getElem?_eq_some_iff.1 ho).1
    have h := hall i hi
    rw [ho] at h
    simp only [Bool.and_eq_true] at h
    refine ⟨fun j b hg => ?_, fun e he => ?_, h.2⟩
    · have h1 := h.1.1
      rw [hg] at h1
      simp only [Bool.and_eq_true, decide_eq_true_eq, Array.any_eq_true, beq_iff_eq] at h1
      obtain ⟨h2, k, hk, h3, h4⟩ := h1
      exact ⟨h2, o.after[k], by simp, h3, h4⟩
    · have := Array.all_eq_true_iff_forall_mem.1 h.1.2 e (by simpa using he)
      simpa using this
  have alive : ∀ listed : Array Bool, listed.size = ops.size → 0 < todo listed → Region.ready .any ops listed ≠ [] := by
    intro listed hs ht he
    obtain ⟨i, hi⟩ : ∃ i, i < ops.size ∧ listed.getD i true = false := by
      unfold todo at ht
      obtain ⟨i, hi, e⟩ := List.mem_iff_getElem.1 (List.count_pos_iff.1 ht)
      have hi' : i < listed.size := by simpa using hi
      exact ⟨i, by omega, by simpa [hi'] using e⟩
    obtain ⟨n, ⟨hn, hf⟩, hmin⟩ : ∃ n, (n < ops.size ∧ listed.getD n true = false) ∧ ∀ m, m < n → listed.getD m true = true := by
      have : ∀ k i, i < k → i < ops.size → listed.getD i true = false → ∃ n, (n < ops.size ∧ listed.getD n true = false) ∧ ∀ m, m < n → listed.getD m true = true := by
        intro k
        induction k with
        | zero => intro i h; omega
        | succ k ih =>
          intro i hik h1 h2
          by_cases hm : ∃ m, m < i ∧ listed.getD m true = false
          · obtain ⟨m, hmi, hmf⟩ := hm
            exact ih m (by omega) (by omega) hmf
          · refine ⟨i, ⟨h1, h2⟩, fun m hmi => ?_⟩
            rcases Bool.eq_false_or_eq_true (listed.getD m true) with h | h
            · exact h
            · exact absurd ⟨m, hmi, h⟩ hm
      exact this (i + 1) i (by omega) hi.1 hi.2
    have hmem : n ∈ Region.ready .any ops listed := by
      refine mem_ready.2 ⟨hf, ops[n], by simp [hn], fun e hee _ => ?_⟩
      have hlt := (form n ops[n] (by simp [hn])).2.1 e (by simpa using hee)
      have := hmin e.on hlt
      have hsz : e.on < listed.size := by omega
      simpa [hsz] using this
    rw [he] at hmem
    cases hmem
  intro fuel
  induction fuel with
  | zero =>
    intro listed a' w' hs ht M
    have hdone : ∀ i, i < ops.size → listed.getD i true = true := by
      intro i hi
      rcases Bool.eq_false_or_eq_true (listed.getD i true) with h | h
      · exact h
      · have := todo_set (i := i) (listed := listed) (by omega) h
        omega
    refine ⟨?_, ?_⟩
    · match hr : Region.ready .any ops listed with
      | [] => rfl
      | i :: _ =>
        exfalso
        have hi : i ∈ Region.ready .any ops listed := by rw [hr]; exact List.mem_cons_self
        obtain ⟨h1, o, ho, _⟩ := mem_ready.1 hi
        have hlt : i < ops.size := (Array.getElem?_eq_some_iff.1 ho).1
        rw [hdone i hlt] at h1
        cases h1
    · have hput : a' = puts a (fun k => a'.tmps.getD k undef) (dstsAll ops) := by
        refine act_eq ?_ (by rw [puts_defers, M.defers])
        apply Array.ext_getElem?
        intro k
        rw [puts_get]
        split
        · rename_i h
          have hk : k < a'.tmps.size := by rw [M.size]; exact h.2
          simp [hk]
        · rename_i h
          by_cases hk : k ∈ dstsAll ops
          · exact absurd ⟨hk, hfit k hk⟩ h
          · exact M.same k hk
      have h := last (fun k => a'.tmps.getD k undef) w' M.goes (fun d hd => by
        obtain ⟨j, hj, rfl⟩ := List.mem_map.1 hd
        have hj' := List.mem_range.1 hj
        refine M.known j hj' ?_
        have := hdone j hj'
        have hsz : j < listed.size := by omega
        simpa [hsz] using this)
      rwa [← hput] at h
  | succ fuel ih =>
    intro listed a' w' hs ht M
    refine ⟨fun he => absurd he (alive listed hs (by omega)), fun i hi => ?_⟩
    obtain ⟨h1, o, ho, hdeps⟩ := mem_ready.1 hi
    have hlt : i < ops.size := (Array.getElem?_eq_some_iff.1 ho).1
    have hset := todo_set (i := i) (listed := listed) (by omega) h1
    obtain ⟨hg, hon, hdst⟩ := form i o ho
    obtain ⟨d, hd⟩ : ∃ d, o.dst = some d := Option.isSome_iff_exists.1 hdst
    have hdi : dstOf ops i = d := by simp [dstOf, ho, hd]
    have hdm : d ∈ dstsAll ops := hdi ▸ dstAll_mem hlt
    have hr := step i o ho a'.eval w' M.goes (fun x hx => by
      cases x with
      | tmp t =>
        have hm : t ∉ dstsAll ops := fun hm => hx t hm rfl
        have := M.same t hm
        simp only [Act.eval, Array.getD_eq_getD_getElem?, this]
      | const c => rfl
      | global g => rfl
      | func f => rfl) (fun e he hbd => M.known e.on (by have := hon e he; omega) (hdeps e (by simpa using he) hbd))
    have fin : ∀ v w2, G w' w2 → D (dstOf ops i) v w2 → wpAny P .any ops Q fuel (listed.setIfInBounds i true) (a'.put o.dst v) w2 := fun v w2 hb2 hD => by
      refine ih _ _ w2 (by simpa using hs) (by omega) ?_
      rw [hd]
      refine ⟨by simp [Act.put, M.size], by simp [Act.put, M.defers], fun k hk => ?_, hG.trans M.goes hb2, fun j hj hjl => ?_⟩
      · have hkd : d ≠ k := fun e => hk (e ▸ hdm)
        simp only [Act.put, Array.getElem?_setIfInBounds, if_neg hkd]
        exact M.same k hk
      · by_cases hji : j = i
        · subst hji
          rw [hdi] at hD ⊢
          have hds : d < a'.tmps.size := by rw [M.size]; exact hfit d hdm
          simpa [Act.put, hds] using hD
        · have hne : d ≠ dstOf ops j := fun e => hji (dstAll_inj hnd hj hlt (by rw [hdi, e]))
          have hold : listed.getD j false = true := by rwa [getD_set_ne false (Ne.symm hji)] at hjl
          have := stable _ _ _ _ (M.known j hj hold) hb2
          simpa [Act.put, Array.getElem?_setIfInBounds, hne] using this
    unfold wpOp
    simp only [ho]
    unfold OpGuardU at hr
    cases hgd : o.guard with
    | none =>
      rw [hgd] at hr
      rw [if_pos (by simp [Region.wanted, hgd])]
      exact .inl (hr.wp fun v w2 ⟨hb2, hD⟩ => fin v w2 hb2 hD)
    | some jb =>
      obtain ⟨j, b⟩ := jb
      rw [hgd] at hr
      have hj : j < ops.size := by have := (hg j b hgd).1; omega
      have hoj : ops[j]? = some ops[j] := by simp [hj]
      obtain ⟨dj, hdj⟩ : ∃ dj, ops[j].dst = some dj := Option.isSome_iff_exists.1 (form j _ hoj).2.2
      have e1 : dstOf ops j = dj := by simp [dstOf, hoj, hdj]
      rcases hr with ⟨c, hc, hy, hn⟩ | ⟨hc, hn⟩
      · have hyd : yielded ops a'.tmps j = some c := by
          rw [e1] at hc
          have hcell : a'.tmps[dj]? = some (.bool c) := by
            simp only [Act.eval, Array.getD_eq_getD_getElem?] at hc
            cases ht : a'.tmps[dj]? with
            | none => rw [ht] at hc; simp [undef] at hc
            | some v => rw [ht] at hc; simp at hc; rw [hc]
          unfold yielded
          rw [hoj]
          simp [hdj, hcell]
        by_cases hcb : c = b
        · rw [if_pos (by simp [Region.wanted, hgd, hyd, hcb])]
          exact .inl ((hy hcb).wp fun v w2 ⟨hb2, hD⟩ => fin v w2 hb2 hD)
        · rw [if_neg (by simp [Region.wanted, hgd, hyd, hcb])]
          exact fin undef w' (hn hcb).1 (hn hcb).2
      · have hyd : yielded ops a'.tmps j = none := by
          rw [e1] at hc
          unfold yielded
          rw [hoj]
          simp only [Act.eval, Array.getD_eq_getD_getElem?] at hc
          cases ht : a'.tmps[dj]? with
          | none => simp [hdj, ht]
          | some v =>
            rw [ht] at hc
            simp at hc
            subst hc
            simp [hdj, ht, undef]
        rw [if_neg (by simp [Region.wanted, hgd, hyd])]
        exact fin undef w' hn.1 hn.2

def StepGU {G : World → World → Prop} (P : Program) (dsts : List Nat) (T : Nat → Held G) (a : Act) (w : World) (o : Oper) (d : Nat) : Prop :=
  ∀ (ev : Operand → Value) w1, G w w1 → (∀ x, (∀ d ∈ dsts, x ≠ .tmp d) → ev x = a.eval x) → DepsG dsts T ev w1 o.after.toList → OpGuardU P ev o (fun j => dsts.getD j 0) w1 fun v w2 => G w1 w2 ∧ (T d).p v w2
def StepsGU {G : World → World → Prop} (P : Program) (dsts : List Nat) (T : Nat → Held G) (a : Act) (w : World) : List Oper → List Nat → Prop
  | o :: os, d :: ds => StepGU P dsts T a w o d ∧ StepsGU P dsts T a w os ds
  | _, _ => True
theorem stepsG_atU {G : World → World → Prop} {P : Program} {dsts : List Nat} {T : Nat → Held G} {a : Act} {w : World} : ∀ {os : List Oper} {ds : List Nat} (_ : StepsGU P dsts T a w os ds) (i : Nat) {o : Oper} {d : Nat}, os[i]? = some o → ds[i]? = some d → StepGU P dsts T a w o d
  | [], _, _, i, _, _, h, _ => by simp at h
  | _ :: _, [], _, i, _, _, _, h => by simp at h
  | _ :: os, _ :: ds, h, 0, _, _, ho, hd => by simp at ho hd; subst ho hd; exact h.1
  | _ :: os, _ :: ds, h, i + 1, _, _, ho, hd => stepsG_atU h.2 i (by simpa using ho) (by simpa using hd)

/-- THE LAW. -/
theorem wp_region_guardU {P : Program} {id : Nat} {ops : Array Oper} {Q : Exit → Act → World → Prop} {G : World → World → Prop} (hG : Goes G) (dsts : List Nat) (T : Nat → Held G) {a : Act} {w : World} (hm : P.follows .mixedOrders = true)
    (hB : (guardAll ops && edgesBind ops && decide (dstsAll ops = dsts)) = true)
    (hfit : (dsts.all fun d => decide (d < a.tmps.size)) = true)
    (steps : StepsGU P dsts T a w.drew ops.toList dsts)
    (last : ∀ f w1, G w.drew w1 → (∀ d ∈ dsts, (T d).p (f d) w1) → Q .normal (puts a f dsts) w1) : (Code.region id ops true).wp P Q a w := by
  simp only [Bool.and_eq_true, decide_eq_true_eq] at hB
  obtain ⟨⟨hB, hbind⟩, rfl⟩ := hB
  have hB' := hB
  simp only [guardAll, Bool.and_eq_true] at hB'
  have hform := hB'.1
  rw [List.all_eq_true] at hform
  refine wp_region_any hm (wpAny_guardU (D := fun d v w => (T d).p v w) hG (w := w.drew) hB (fun d hd => by simpa using List.all_eq_true.1 hfit d hd) (fun d v w1 w2 h hb => (T d).st v w1 w2 h hb)
    (fun i o ho ev w1 hb hev hdeps => ?_) (fun f w1 hb h => last f w1 hb h) _ _ _ _ (by simp) (by simp [todo]) ⟨rfl, rfl, fun _ _ => rfl, hG.refl _, fun i hi h => ?_⟩)
  · have hlt : i < ops.size := (Array.getElem?_eq_some_iff.1 ho).1
    have h1 := stepsG_atU steps i (o := o) (d := dstOf ops i) (by simpa using ho) (by simp [dstsAll, hlt])
    have hf := hform i (List.mem_range.2 hlt)
    rw [ho] at hf
    simp only [Bool.and_eq_true] at hf
    have hget : ∀ j, j < ops.size → (dstsAll ops).getD j 0 = dstOf ops j := fun j hj => by simp [dstsAll, List.getD, hj]
    have h2 := h1 ev w1 hb hev (depsG_of fun e he => ?_)
    · unfold OpGuardU at h2 ⊢
      cases hgd : o.guard with
      | none => rw [hgd] at h2; exact h2
      | some jb =>
        obtain ⟨j, b⟩ := jb
        rw [hgd] at h2
        have hj : j < i := by
          have h3 := hf.1.1
          rw [hgd] at h3
          simp only [Bool.and_eq_true, decide_eq_true_eq] at h3
          exact h3.1
        simp only [hget j (by omega)] at h2
        exact h2
    · have hon : e.on < i := by simpa using Array.all_eq_true_iff_forall_mem.1 hf.1.2 e (by simpa using he)
      have hbd : Region.binds .any e = true := by
        have h2 := Array.all_eq_true_iff_forall_mem.1 hbind o (Array.mem_of_getElem? ho)
        exact Array.all_eq_true_iff_forall_mem.1 h2 e (by simpa using he)
      rw [hget e.on (by omega)]
      exact hdeps e he hbd
  · have h0 : (Array.replicate ops.size false).getD i false = false := by simp [show i < ops.size by omega]
    rw [h0] at h; cases h
end Go.Proofs.YtplpakdbahlgaaaDoor

namespace Go.Proofs.YtplpakdbahlgaaaDoor
open Go.RowKit

abbrev GB : World → World → Prop := fun a b => Below a.heap.size a b
/-- A slot that holds a row of these pairs. -/
def heldRow (n : Nat) (l : List Ep.Pr) : Held GB := ⟨fun v w => ∃ A c, v = .slice A n c ∧ PrAt w A c l, fun v w1 w2 h hb => by obtain ⟨A, c, e, hp⟩ := h; exact ⟨A, c, e, hp.below hb⟩⟩
theorem heldRow.of {n : Nat} {l : List Ep.Pr} {v : Value} {w : World} (h : (heldRow n l).p v w) : ∃ A c, v = .slice A n c ∧ PrAt w A c l := h

set_option maxRecDepth 100000 in
set_option maxHeartbeats 4000000 in
theorem cuts9_any (w : World) (p : Nat → Addr) (hs : Sents3 w p) (A : Option Addr) (cap n : Nat) (l : List Ep.Pr) (a0 k0 : Int) (hn : l.length = n) (ha : ArgP w A cap l) (hA : -9223372036854775808 ≤ a0 ∧ a0 ≤ 9223372036854775807) (hK : -9223372036854775808 ≤ k0 ∧ k0 ≤ 9223372036854775807) :
    Calls Tryd.prog 7 #[.slice A n cap, .int .i64 a0, .int .i64 k0] w fun r w' => r = .returned (.bool true) ∧ Below w.heap.size w w' := by
  have HF := hide (first9_any w p hs)
  have hle : n ≤ cap := hn ▸ ha.at_.le
  cases hb : Ep.bad l with
  | some j =>
    have HN := hide (fun V (hbv : Below w.heap.size w V) => epNew_bad A cap n j l V p hn (hs.below hbv) (ha.below hbv).at_ ha.nil hb)
    have k1 := fun W => neq_nilD (p j) W
    unfold errV at *
    clear hs ha hb hn hA hK
    by_cases h20 : 20 < n
    · have d0 : decide ((20 : Int) < n) = true := decide_eq_true (by omega)
      go_enter Tryd.func7, Tryd.ntmps7
      go_wp2_with (first
        | (go_at_call 10; refine HF.out.mono ?_; rintro e w2 ⟨rfl, hb2⟩; have HB2 := hide hb2; clear hb2)
        | (go_at_call 11; refine (HN.out _ HB2.out).mono ?_; rintro e w3 ⟨rfl, hb3⟩; have HB3 := hide (HB2.out.trans (hb3.mono HB2.out.size)); clear hb3)
        | fail)
      go_ret
      exact ⟨rfl, HB3.out⟩
    · have d0 : decide ((20 : Int) < n) = false := decide_eq_false (by omega)
      go_enter Tryd.func7, Tryd.ntmps7
      go_wp2_with (first
        | (go_at_call 10; refine HF.out.mono ?_; rintro e w2 ⟨rfl, hb2⟩; have HB2 := hide hb2; clear hb2)
        | (go_at_call 11; refine (HN.out _ HB2.out).mono ?_; rintro e w3 ⟨rfl, hb3⟩; have HB3 := hide (HB2.out.trans (hb3.mono HB2.out.size)); clear hb3)
        | fail)
      go_ret
      exact ⟨rfl, HB3.out⟩
  | none =>
    have hok := Ep.bad_none.1 hb
    have HN := hide (fun V (hbv : Below w.heap.size w V) => epNew_ok A cap n l V p hn (hs.below hbv) (ha.below hbv).at_ ha.nil hok)
    by_cases h20 : 20 < n
    · clear hs ha hb hn hok hA hK
      have d0 : decide ((20 : Int) < n) = true := decide_eq_true (by omega)
      go_enter Tryd.func7, Tryd.ntmps7
      go_wp2_with (first
        | (go_at_call 10; refine HF.out.mono ?_; rintro e w2 ⟨rfl, hb2⟩; have HB2 := hide hb2; clear hb2)
        | (go_at_call 11; refine (HN.out _ HB2.out).mono ?_; rintro e w3 ⟨X, rfl, -, hb3⟩; have HB3 := hide (HB2.out.trans (hb3.mono HB2.out.size)); clear hb3)
        | fail)
      go_ret
      exact ⟨rfl, HB3.out⟩
    · have d0 : decide ((20 : Int) < n) = false := decide_eq_false (by omega)
      have hn20 : n ≤ 20 := by omega
      have HOK := hide hok
      have HLN := hide hn
      have HAA := hide ha
      obtain ⟨a, hae⟩ : ∃ a, a = a0 % 549755813888 := ⟨_, rfl⟩
      obtain ⟨k, hke⟩ : ∃ k, k = k0 % 549755813888 := ⟨_, rfl⟩
      have HLA := hide (fun V => long_ix a0 549755813888 V (by omega) (by omega) hA.1 hA.2)
      have HLK := hide (fun V => long_ix k0 549755813888 V (by omega) (by omega) hK.1 hK.2)
      rw [← hae] at HLA
      rw [← hke] at HLK
      obtain ⟨m, hm⟩ : ∃ m, m = (Ep.cutStart l a).length := ⟨_, rfl⟩
      have HLC : Hid ((Ep.cutStart l a).length = m) := hide hm.symm
      have hmp := Ep.cutStart_pos (l := l) a
      rw [← hm, hn] at hmp
      clear hs ha hb hn hok hA hK hae hke h20 hm
      by_cases hlt : k < a
      · have dlt : decide (k < a) = true := decide_eq_true hlt
        have dge : decide (a ≤ k) = false := decide_eq_false (by omega)
        have HCE := hide (Ep.at_cutEnd HOK.out.rise hlt)
        have b1 : ((Ep.at_ l k).1 != (Ep.at_ l k).1) = false := bne_self_eq_false _
        have b2 : ((Ep.at_ l k).2 != (Ep.at_ l k).2) = false := bne_self_eq_false _
        clear hlt
        rcases Nat.eq_zero_or_pos (Ep.cutEnd l a).length with hq | hq
        · have HLQ := hide hq
          clear hq
          rcases Nat.eq_zero_or_pos n with hl0 | hl0
          · have hm0 : m = 0 := by omega
            have HN0 := hide hl0
            have dm0 : decide ((0 : Int) < m) = false := decide_eq_false (by omega)
            have dn0 : decide ((0 : Int) < n) = false := decide_eq_false (by omega)
            have em0 : ((m : Int) == 0) = true := by rw [beq_iff_eq]; omega
            have HM0 := hide hm0
            have HL0 := hide hl0
            clear hmp hm0 hl0
            go_enter Tryd.func7, Tryd.ntmps7
            go_upto_region 24 with (first
              | (go_at_call 10; refine HF.out.mono ?_; rintro e w2 ⟨rfl, hb2⟩; have HB2 := hide hb2; clear hb2)
              | (go_at_call 11; refine (HN.out _ HB2.out).mono ?_; rintro e w3 ⟨X, rfl, hx, hb3⟩; have I3 : Hid (Lns w [(X, l)] [] w3) := hide ((Lns.nil HB2.out).add hb3 hx HOK.out); clear hb3 hx)
              | (go_at_call 31; have _t := HA1; refine (HLK.out _).mono ?_; rintro e w5 ⟨rfl, e⟩; subst e; have HA2 := hide True.intro)
              | (go_at_call 31; refine (HLA.out _).mono ?_; rintro e w4 ⟨rfl, e⟩; subst e; have HA1 := hide True.intro)
              | (go_at_call 36; have _t := I10; refine (I10.out.at_ (i := 2) rfl k).mono ?_; rintro e w10 ⟨rfl, h10⟩; have I11 := hide h10; clear h10 I10; skip)
              | (go_at_call 36; have _t := I9; refine (I9.out.at_ (i := 1) rfl k).mono ?_; rintro e w10 ⟨rfl, h10⟩; have I10 := hide h10; clear h10 I9; rw [HCE.out])
              | (go_at_call 36; refine (I3.out.at_ (i := 0) rfl k).mono ?_; rintro e w5 ⟨rfl, h5⟩; have I5 := hide h5; clear h5 I3)
              | (go_at_call 15; have _t := I7; refine (I7.out.clone (i := 0) rfl).mono ?_; rintro e w8 ⟨Z, rfl, h8⟩; have I8 : Hid (Lns w [(X, l), (Y, Ep.cutEnd l a), (Z, l)] [] w8) := hide h8; clear h8 I7)
              | (go_at_call 15; refine (I5.out.clone (i := 0) rfl).mono ?_; rintro e w6 ⟨Y, rfl, h6⟩; have I6 : Hid (Lns w [(X, l), (Y, l)] [] w6) := hide h6; clear h6 I5)
              | (go_at_call 19; refine (I6.out.cutEnd (i := 1) rfl a).mono ?_; rintro e w7 ⟨rfl, h7⟩; have I7 : Hid (Lns w [(X, l), (Y, Ep.cutEnd l a)] [] w7) := hide h7; clear h7 I6)
              | (go_at_call 21; refine (I8.out.cutStart (i := 2) rfl a).mono ?_; rintro e w9 ⟨rfl, h9⟩; have I9 : Hid (Lns w [(X, l), (Y, Ep.cutEnd l a), (Z, Ep.cutStart l a)] [] w9) := hide h9; clear h9 I8)
              | (go_at_call 16; have _t := I12; refine (I12.out.pairs (i := 2) rfl).mono ?_; rintro e w12 ⟨Asl, cc, rfl, h0c, h12⟩; have I13 := hide h12; have H0C := hide h0c; clear h12 I12 h0c; rw [HLC.out])
              | (go_at_call 16; refine (I11.out.pairs (i := 1) rfl).mono ?_; rintro e w11 ⟨Aq, cq, rfl, -, h11⟩; have I12 := hide h11; skip; clear h11 I11; rw [HLQ.out])
              | fail)
            have hpc := I13.out.row 1 rfl
            have HPX := hide (fun V (hb : Below w12.heap.size w12 V) => (I13.out.below hb).pairs (i := 0) rfl)
            have HPX' : Hid (∀ V, Below w12.heap.size w12 V → Calls Tryd.prog 16 #[.pointer (some ⟨X, 0, none⟩)] V fun e w'' => ∃ v, e = .returned v ∧ Below V.heap.size V w'' ∧ (heldRow n l).p v w'') := hide fun V hb => by
              obtain ⟨S, hS, hok⟩ := (I13.out.below hb).get (i := 0) rfl
              refine (epPairs_any X l S V (by have := hok.len; omega) hS).mono ?_
              rintro e w'' ⟨v, rfl, hv, hb''⟩
              obtain ⟨A', c', rfl, hp', -, -⟩ := pairs_at hv
              exact ⟨_, rfl, hb'', A', c', by rw [HLN.out], hp'⟩
            have HSM : Hid (∀ V, Below w12.heap.size w12 V → ∀ v, (heldRow n l).p v V → Calls Tryd.prog 23 #[v, .slice A n cap] V fun e w'' => e = .returned (.bool true) ∧ Below V.heap.size V w'') := hide fun V hb v hv => by
              obtain ⟨A', c', rfl, hp'⟩ := hv
              exact samePairs_eq A' A c' cap n l V HLN.out (by omega) hp' (HAA.out.below (I13.out.bel.trans (hb.mono I13.out.bel.size))).at_
            clear HPX
            refine wp_region_guardU (G := GB) ⟨fun w => Below.refl _ w, fun h k => h.trans (k.mono h.size)⟩ [116, 117, 118, 119, 120, 121, 122, 123, 124, 125, 126, 127, 128, 129, 130, 131, 132, 133, 134, 135, 136, 137, 138, 139, 140, 141, 142, 143, 144, 145, 146, 6] (fun d => match d with
    | 116 => .is (.slice Asl m cc) | 117 => .is (.int .i64 m) | 119 => .is (.slice A n cap) | 120 => .is (.int .i64 n) | 122 => .is (.bool true) | 123 => .is (.bool true) | 124 => .is (.slice Asl m cc) | 125 => .is (.int .i64 m) | 139 => .is (.bool true) | 140 => .is (.bool true) | 141 => .is (.bool true) | 142 => .is (.pointer (some ⟨X, 0, none⟩)) | 143 => heldRow n l | 144 => .is (.slice A n cap) | 145 => .is (.bool true) | 146 => .is (.bool true) | 6 => .is (.bool true) | 118 => .is (.bool false) | 121 => .is (.bool false) | 126 => .is (.bool true) | 127 => .is (.bool true) | _ => .is undef) (by kernel_rfl) (by kernel_rfl) (by kernel_rfl) ?_ ?_
            · simp only [StepsGU]
              refine ⟨?_, ?_, ?_, ?_, ?_, ?_, ?_, ?_, ?_, ?_, ?_, ?_, ?_, ?_, ?_, ?_, ?_, ?_, ?_, ?_, ?_, ?_, ?_, ?_, ?_, ?_, ?_, ?_, ?_, ?_, ?_, ?_, trivial⟩
              all_goals
                intro ev w6 hb hev hd
                have ev0 : ev (.tmp 0) = .slice A n cap := hev _ (by simp)
                have ev1 : ev (.tmp 1) = .int .i64 a := hev _ (by simp)
                have ev8 : ev (.tmp 8) = .pointer (some ⟨X, 0, none⟩) := hev _ (by simp)
                have ev19 : ev (.tmp 19) = .slice Asl m cc := hev _ (by simp)
                have evf : ∀ f, ev (.func f) = .func (.func f) #[] #[] := fun f => hev _ (by simp)
                have evc : ∀ c, ev (.const c) = c := fun c => hev _ (by simp)
                have HB6 : Hid (Below w12.heap.size w12 w6) := hide ((Below.refl w12.heap.size w12).drew.trans hb)
                clear hev hb 
                simp [DepsG, Held.is] at hd
                try simp [OpGuardU, OpRuns, execOp, go_sem, Held.is, Below.refl, *]
              · exact HM0.out
              · exact HL0.out
              · exact .inl (HPX'.out w6 HB6.out)
              · exact .inl (HSM.out w6 HB6.out _ hd.1)
            · intro f w9 hb hf
              have e6 : f 6 = .bool true := hf 6 (by simp)
              have HB9 : Hid (Below w12.heap.size w12 w9) := hide ((Below.refl w12.heap.size w12).drew.trans hb)
              clear hf hb
              simp only [puts, Act.put, List.setIfInBounds_toArray, List.set_cons_succ, List.set_cons_zero]
              rw [e6]
              clear e6
              generalize f 116 = q116
              generalize f 117 = q117
              generalize f 118 = q118
              generalize f 119 = q119
              generalize f 120 = q120
              generalize f 121 = q121
              generalize f 122 = q122
              generalize f 123 = q123
              generalize f 124 = q124
              generalize f 125 = q125
              generalize f 126 = q126
              generalize f 127 = q127
              generalize f 128 = q128
              generalize f 129 = q129
              generalize f 130 = q130
              generalize f 131 = q131
              generalize f 132 = q132
              generalize f 133 = q133
              generalize f 134 = q134
              generalize f 135 = q135
              generalize f 136 = q136
              generalize f 137 = q137
              generalize f 138 = q138
              generalize f 139 = q139
              generalize f 140 = q140
              generalize f 141 = q141
              generalize f 142 = q142
              generalize f 143 = q143
              generalize f 144 = q144
              generalize f 145 = q145
              generalize f 146 = q146
              clear f
              go_wp2_with fail
              go_ret
              exact ⟨rfl, I13.out.bel.trans (HB9.out.mono I13.out.bel.size)⟩
          · have hm0 : 0 < m := hmp.2 hl0
            have dm0 : decide ((0 : Int) < m) = true := decide_eq_true (by omega)
            have dn0 : decide ((0 : Int) < n) = true := decide_eq_true (by omega)
            have em0 : ((m : Int) == 0) = false := by rw [beq_eq_false_iff_ne]; omega
            clear hmp
            go_enter Tryd.func7, Tryd.ntmps7
            go_upto_region 24 with (first
              | (go_at_call 10; refine HF.out.mono ?_; rintro e w2 ⟨rfl, hb2⟩; have HB2 := hide hb2; clear hb2)
              | (go_at_call 11; refine (HN.out _ HB2.out).mono ?_; rintro e w3 ⟨X, rfl, hx, hb3⟩; have I3 : Hid (Lns w [(X, l)] [] w3) := hide ((Lns.nil HB2.out).add hb3 hx HOK.out); clear hb3 hx)
              | (go_at_call 31; have _t := HA1; refine (HLK.out _).mono ?_; rintro e w5 ⟨rfl, e⟩; subst e; have HA2 := hide True.intro)
              | (go_at_call 31; refine (HLA.out _).mono ?_; rintro e w4 ⟨rfl, e⟩; subst e; have HA1 := hide True.intro)
              | (go_at_call 36; have _t := I10; refine (I10.out.at_ (i := 2) rfl k).mono ?_; rintro e w10 ⟨rfl, h10⟩; have I11 := hide h10; clear h10 I10; skip)
              | (go_at_call 36; have _t := I9; refine (I9.out.at_ (i := 1) rfl k).mono ?_; rintro e w10 ⟨rfl, h10⟩; have I10 := hide h10; clear h10 I9; rw [HCE.out])
              | (go_at_call 36; refine (I3.out.at_ (i := 0) rfl k).mono ?_; rintro e w5 ⟨rfl, h5⟩; have I5 := hide h5; clear h5 I3)
              | (go_at_call 15; have _t := I7; refine (I7.out.clone (i := 0) rfl).mono ?_; rintro e w8 ⟨Z, rfl, h8⟩; have I8 : Hid (Lns w [(X, l), (Y, Ep.cutEnd l a), (Z, l)] [] w8) := hide h8; clear h8 I7)
              | (go_at_call 15; refine (I5.out.clone (i := 0) rfl).mono ?_; rintro e w6 ⟨Y, rfl, h6⟩; have I6 : Hid (Lns w [(X, l), (Y, l)] [] w6) := hide h6; clear h6 I5)
              | (go_at_call 19; refine (I6.out.cutEnd (i := 1) rfl a).mono ?_; rintro e w7 ⟨rfl, h7⟩; have I7 : Hid (Lns w [(X, l), (Y, Ep.cutEnd l a)] [] w7) := hide h7; clear h7 I6)
              | (go_at_call 21; refine (I8.out.cutStart (i := 2) rfl a).mono ?_; rintro e w9 ⟨rfl, h9⟩; have I9 : Hid (Lns w [(X, l), (Y, Ep.cutEnd l a), (Z, Ep.cutStart l a)] [] w9) := hide h9; clear h9 I8)
              | (go_at_call 16; have _t := I12; refine (I12.out.pairs (i := 2) rfl).mono ?_; rintro e w12 ⟨Asl, cc, rfl, h0c, h12⟩; have I13 := hide h12; have H0C := hide h0c; clear h12 I12 h0c; rw [HLC.out])
              | (go_at_call 16; refine (I11.out.pairs (i := 1) rfl).mono ?_; rintro e w11 ⟨Aq, cq, rfl, -, h11⟩; have I12 := hide h11; skip; clear h11 I11; rw [HLQ.out])
              | fail)
            have hpc := I13.out.row 1 rfl
            have HPX := hide (fun V (hb : Below w12.heap.size w12 V) => (I13.out.below hb).pairs (i := 0) rfl)
            obtain ⟨gc, fc, ec, -, -, z1⟩ := hpc.at_ 0 (by rw [HLC.out]; exact hm0)
            simp only at ec
            subst ec
            rw [Nat.zero_mul, Nat.add_zero] at z1
            obtain ⟨c0, hc0⟩ : ∃ c0, c0 = (Ep.pr (Ep.cutStart l a) 0).st := ⟨_, rfl⟩
            simp only at z1
            rw [← hc0] at z1
            clear hc0 hpc
            have dm : min a c0 ≤ c0 := Int.min_le_right _ _
            have HPX' : Hid (∀ V, Below w12.heap.size w12 V → Calls Tryd.prog 16 #[.pointer (some ⟨X, 0, none⟩)] V fun e w'' => ∃ v, e = .returned v ∧ Below V.heap.size V w'' ∧ (heldRow n l).p v w'') := hide fun V hb => by
              obtain ⟨S, hS, hok⟩ := (I13.out.below hb).get (i := 0) rfl
              refine (epPairs_any X l S V (by have := hok.len; omega) hS).mono ?_
              rintro e w'' ⟨v, rfl, hv, hb''⟩
              obtain ⟨A', c', rfl, hp', -, -⟩ := pairs_at hv
              exact ⟨_, rfl, hb'', A', c', by rw [HLN.out], hp'⟩
            have HSM : Hid (∀ V, Below w12.heap.size w12 V → ∀ v, (heldRow n l).p v V → Calls Tryd.prog 23 #[v, .slice A n cap] V fun e w'' => e = .returned (.bool true) ∧ Below V.heap.size V w'') := hide fun V hb v hv => by
              obtain ⟨A', c', rfl, hp'⟩ := hv
              exact samePairs_eq A' A c' cap n l V HLN.out (by omega) hp' (HAA.out.below (I13.out.bel.trans (hb.mono I13.out.bel.size))).at_
            clear HPX
            refine wp_region_guardU (G := GB) ⟨fun w => Below.refl _ w, fun h k => h.trans (k.mono h.size)⟩ [116, 117, 118, 119, 120, 121, 122, 123, 124, 125, 126, 127, 128, 129, 130, 131, 132, 133, 134, 135, 136, 137, 138, 139, 140, 141, 142, 143, 144, 145, 146, 6] (fun d => match d with
    | 116 => .is (.slice (some ⟨gc, fc, none⟩) m cc) | 117 => .is (.int .i64 m) | 119 => .is (.slice A n cap) | 120 => .is (.int .i64 n) | 122 => .is (.bool true) | 123 => .is (.bool true) | 124 => .is (.slice (some ⟨gc, fc, none⟩) m cc) | 125 => .is (.int .i64 m) | 139 => .is (.bool true) | 140 => .is (.bool true) | 141 => .is (.bool true) | 142 => .is (.pointer (some ⟨X, 0, none⟩)) | 143 => heldRow n l | 144 => .is (.slice A n cap) | 145 => .is (.bool true) | 146 => .is (.bool true) | 6 => .is (.bool true) | 118 => .is (.bool true) | 121 => .is (.bool true) | 126 => .is (.bool false) | 127 => .is (.bool false) | 128 => .is (.slice (some ⟨gc, fc, none⟩) m cc) | 129 => .is (.pointer (some ⟨gc, fc, none⟩)) | 130 => .is (.pointer (some ⟨gc, fc + 1, none⟩)) | 131 => .is (.int .i64 c0) | 132 => .is (.int .i64 a) | 133 => .is (.slice (some ⟨gc, fc, none⟩) m cc) | 134 => .is (.pointer (some ⟨gc, fc, none⟩)) | 135 => .is (.pointer (some ⟨gc, fc + 1, none⟩)) | 136 => .is (.int .i64 c0) | 137 => .is (.int .i64 (min a c0)) | 138 => .is (.bool true) | _ => .is undef) (by kernel_rfl) (by kernel_rfl) (by kernel_rfl) ?_ ?_
            · simp only [StepsGU]
              refine ⟨?_, ?_, ?_, ?_, ?_, ?_, ?_, ?_, ?_, ?_, ?_, ?_, ?_, ?_, ?_, ?_, ?_, ?_, ?_, ?_, ?_, ?_, ?_, ?_, ?_, ?_, ?_, ?_, ?_, ?_, ?_, ?_, trivial⟩
              all_goals
                intro ev w6 hb hev hd
                have ev0 : ev (.tmp 0) = .slice A n cap := hev _ (by simp)
                have ev1 : ev (.tmp 1) = .int .i64 a := hev _ (by simp)
                have ev8 : ev (.tmp 8) = .pointer (some ⟨X, 0, none⟩) := hev _ (by simp)
                have ev19 : ev (.tmp 19) = .slice (some ⟨gc, fc, none⟩) m cc := hev _ (by simp)
                have evf : ∀ f, ev (.func f) = .func (.func f) #[] #[] := fun f => hev _ (by simp)
                have evc : ∀ c, ev (.const c) = c := fun c => hev _ (by simp)
                have HB6 : Hid (Below w12.heap.size w12 w6) := hide ((Below.refl w12.heap.size w12).drew.trans hb)
                have j1 := (HB6.out.cell (World.block_lt_of_cell? _ _ z1)).trans z1
                clear hev hb z1
                simp [DepsG, Held.is] at hd
                try simp [OpGuardU, OpRuns, execOp, go_sem, Held.is, Below.refl, *]
              · exact .inl (HPX'.out w6 HB6.out)
              · exact .inl (HSM.out w6 HB6.out _ hd.1)
            · intro f w9 hb hf
              have e6 : f 6 = .bool true := hf 6 (by simp)
              have HB9 : Hid (Below w12.heap.size w12 w9) := hide ((Below.refl w12.heap.size w12).drew.trans hb)
              clear hf hb
              simp only [puts, Act.put, List.setIfInBounds_toArray, List.set_cons_succ, List.set_cons_zero]
              rw [e6]
              clear e6
              generalize f 116 = q116
              generalize f 117 = q117
              generalize f 118 = q118
              generalize f 119 = q119
              generalize f 120 = q120
              generalize f 121 = q121
              generalize f 122 = q122
              generalize f 123 = q123
              generalize f 124 = q124
              generalize f 125 = q125
              generalize f 126 = q126
              generalize f 127 = q127
              generalize f 128 = q128
              generalize f 129 = q129
              generalize f 130 = q130
              generalize f 131 = q131
              generalize f 132 = q132
              generalize f 133 = q133
              generalize f 134 = q134
              generalize f 135 = q135
              generalize f 136 = q136
              generalize f 137 = q137
              generalize f 138 = q138
              generalize f 139 = q139
              generalize f 140 = q140
              generalize f 141 = q141
              generalize f 142 = q142
              generalize f 143 = q143
              generalize f 144 = q144
              generalize f 145 = q145
              generalize f 146 = q146
              clear f
              go_wp2_with fail
              go_ret
              exact ⟨rfl, I13.out.bel.trans (HB9.out.mono I13.out.bel.size)⟩
        · obtain ⟨mq, hmq⟩ : ∃ mq, (Ep.cutEnd l a).length = mq + 1 := ⟨(Ep.cutEnd l a).length - 1, by omega⟩
          have HLQ := hide hmq
          have HQL : Hid (decide (a ≤ (Ep.pr (Ep.cutEnd l a) mq).st) = false) := hide (decide_eq_false (by have := Ep.cutEnd_lt HOK.out.rise a hq; rw [hmq, Nat.add_sub_cancel] at this; omega))
          have hmq20 : mq + 1 ≤ 20 := by rw [← hmq, Ep.len_cutEnd]; have := Ep.ahead_le l a; have := HLN.out; omega
          have hwq : IntKind.i64.wrap ((mq : Int) + 1 - 1) = (mq : Int) := by rw [IntKind.wrap_i64]; omega
          have dq0 : decide ((0 : Int) < (mq : Int) + 1) = true := decide_eq_true (by omega)
          clear hq hmq
          have hl0 : 0 < n := by have h1 := HLQ.out; have h2 := HLN.out; rw [Ep.len_cutEnd] at h1; have := Ep.ahead_le l a; omega
          have hm0 : 0 < m := hmp.2 hl0
          have dm0 : decide ((0 : Int) < m) = true := decide_eq_true (by omega)
          have dn0 : decide ((0 : Int) < n) = true := decide_eq_true (by omega)
          have em0 : ((m : Int) == 0) = false := by rw [beq_eq_false_iff_ne]; omega
          clear hmp
          go_enter Tryd.func7, Tryd.ntmps7
          go_upto_region 24 with (first
            | (go_at_call 10; refine HF.out.mono ?_; rintro e w2 ⟨rfl, hb2⟩; have HB2 := hide hb2; clear hb2)
            | (go_at_call 11; refine (HN.out _ HB2.out).mono ?_; rintro e w3 ⟨X, rfl, hx, hb3⟩; have I3 : Hid (Lns w [(X, l)] [] w3) := hide ((Lns.nil HB2.out).add hb3 hx HOK.out); clear hb3 hx)
            | (go_at_call 31; have _t := HA1; refine (HLK.out _).mono ?_; rintro e w5 ⟨rfl, e⟩; subst e; have HA2 := hide True.intro)
            | (go_at_call 31; refine (HLA.out _).mono ?_; rintro e w4 ⟨rfl, e⟩; subst e; have HA1 := hide True.intro)
            | (go_at_call 36; have _t := I10; refine (I10.out.at_ (i := 2) rfl k).mono ?_; rintro e w10 ⟨rfl, h10⟩; have I11 := hide h10; clear h10 I10; skip)
            | (go_at_call 36; have _t := I9; refine (I9.out.at_ (i := 1) rfl k).mono ?_; rintro e w10 ⟨rfl, h10⟩; have I10 := hide h10; clear h10 I9; rw [HCE.out])
            | (go_at_call 36; refine (I3.out.at_ (i := 0) rfl k).mono ?_; rintro e w5 ⟨rfl, h5⟩; have I5 := hide h5; clear h5 I3)
            | (go_at_call 15; have _t := I7; refine (I7.out.clone (i := 0) rfl).mono ?_; rintro e w8 ⟨Z, rfl, h8⟩; have I8 : Hid (Lns w [(X, l), (Y, Ep.cutEnd l a), (Z, l)] [] w8) := hide h8; clear h8 I7)
            | (go_at_call 15; refine (I5.out.clone (i := 0) rfl).mono ?_; rintro e w6 ⟨Y, rfl, h6⟩; have I6 : Hid (Lns w [(X, l), (Y, l)] [] w6) := hide h6; clear h6 I5)
            | (go_at_call 19; refine (I6.out.cutEnd (i := 1) rfl a).mono ?_; rintro e w7 ⟨rfl, h7⟩; have I7 : Hid (Lns w [(X, l), (Y, Ep.cutEnd l a)] [] w7) := hide h7; clear h7 I6)
            | (go_at_call 21; refine (I8.out.cutStart (i := 2) rfl a).mono ?_; rintro e w9 ⟨rfl, h9⟩; have I9 : Hid (Lns w [(X, l), (Y, Ep.cutEnd l a), (Z, Ep.cutStart l a)] [] w9) := hide h9; clear h9 I8)
            | (go_at_call 16; have _t := I12; refine (I12.out.pairs (i := 2) rfl).mono ?_; rintro e w12 ⟨Asl, cc, rfl, h0c, h12⟩; have I13 := hide h12; have H0C := hide h0c; clear h12 I12 h0c; rw [HLC.out])
            | (go_at_call 16; refine (I11.out.pairs (i := 1) rfl).mono ?_; rintro e w11 ⟨Aq, cq, rfl, -, h11⟩; have I12 := hide h11; have hq11 : PrAt w11 Aq cq (Ep.cutEnd l a) := h11.row 0 rfl; obtain ⟨gq, fq, eq, -, -, kq⟩ := hq11.at_ mq (by rw [HLQ.out]; exact Nat.lt_succ_self mq); subst eq; have hcq : mq + 1 ≤ cq := HLQ.out ▸ hq11.le; have dq := HQL.out; generalize (Ep.pr (Ep.cutEnd l a) mq).st = sq at kq dq; clear hq11; clear h11 I11; rw [HLQ.out])
            | fail)
          have hpc := I13.out.row 1 rfl
          have HPX := hide (fun V (hb : Below w12.heap.size w12 V) => (I13.out.below hb).pairs (i := 0) rfl)
          obtain ⟨gc, fc, ec, -, -, z1⟩ := hpc.at_ 0 (by rw [HLC.out]; exact hm0)
          simp only at ec
          subst ec
          rw [Nat.zero_mul, Nat.add_zero] at z1
          obtain ⟨c0, hc0⟩ : ∃ c0, c0 = (Ep.pr (Ep.cutStart l a) 0).st := ⟨_, rfl⟩
          simp only at z1
          rw [← hc0] at z1
          clear hc0 hpc
          have dm : min a c0 ≤ c0 := Int.min_le_right _ _
          have HPX' : Hid (∀ V, Below w12.heap.size w12 V → Calls Tryd.prog 16 #[.pointer (some ⟨X, 0, none⟩)] V fun e w'' => ∃ v, e = .returned v ∧ Below V.heap.size V w'' ∧ (heldRow n l).p v w'') := hide fun V hb => by
            obtain ⟨S, hS, hok⟩ := (I13.out.below hb).get (i := 0) rfl
            refine (epPairs_any X l S V (by have := hok.len; omega) hS).mono ?_
            rintro e w'' ⟨v, rfl, hv, hb''⟩
            obtain ⟨A', c', rfl, hp', -, -⟩ := pairs_at hv
            exact ⟨_, rfl, hb'', A', c', by rw [HLN.out], hp'⟩
          have HSM : Hid (∀ V, Below w12.heap.size w12 V → ∀ v, (heldRow n l).p v V → Calls Tryd.prog 23 #[v, .slice A n cap] V fun e w'' => e = .returned (.bool true) ∧ Below V.heap.size V w'') := hide fun V hb v hv => by
            obtain ⟨A', c', rfl, hp'⟩ := hv
            exact samePairs_eq A' A c' cap n l V HLN.out (by omega) hp' (HAA.out.below (I13.out.bel.trans (hb.mono I13.out.bel.size))).at_
          clear HPX
          refine wp_region_guardU (G := GB) ⟨fun w => Below.refl _ w, fun h k => h.trans (k.mono h.size)⟩ [116, 117, 118, 119, 120, 121, 122, 123, 124, 125, 126, 127, 128, 129, 130, 131, 132, 133, 134, 135, 136, 137, 138, 139, 140, 141, 142, 143, 144, 145, 146, 6] (fun d => match d with
    | 116 => .is (.slice (some ⟨gc, fc, none⟩) m cc) | 117 => .is (.int .i64 m) | 119 => .is (.slice A n cap) | 120 => .is (.int .i64 n) | 122 => .is (.bool true) | 123 => .is (.bool true) | 124 => .is (.slice (some ⟨gc, fc, none⟩) m cc) | 125 => .is (.int .i64 m) | 139 => .is (.bool true) | 140 => .is (.bool true) | 141 => .is (.bool true) | 142 => .is (.pointer (some ⟨X, 0, none⟩)) | 143 => heldRow n l | 144 => .is (.slice A n cap) | 145 => .is (.bool true) | 146 => .is (.bool true) | 6 => .is (.bool true) | 118 => .is (.bool true) | 121 => .is (.bool true) | 126 => .is (.bool false) | 127 => .is (.bool false) | 128 => .is (.slice (some ⟨gc, fc, none⟩) m cc) | 129 => .is (.pointer (some ⟨gc, fc, none⟩)) | 130 => .is (.pointer (some ⟨gc, fc + 1, none⟩)) | 131 => .is (.int .i64 c0) | 132 => .is (.int .i64 a) | 133 => .is (.slice (some ⟨gc, fc, none⟩) m cc) | 134 => .is (.pointer (some ⟨gc, fc, none⟩)) | 135 => .is (.pointer (some ⟨gc, fc + 1, none⟩)) | 136 => .is (.int .i64 c0) | 137 => .is (.int .i64 (min a c0)) | 138 => .is (.bool true) | _ => .is undef) (by kernel_rfl) (by kernel_rfl) (by kernel_rfl) ?_ ?_
          · simp only [StepsGU]
            refine ⟨?_, ?_, ?_, ?_, ?_, ?_, ?_, ?_, ?_, ?_, ?_, ?_, ?_, ?_, ?_, ?_, ?_, ?_, ?_, ?_, ?_, ?_, ?_, ?_, ?_, ?_, ?_, ?_, ?_, ?_, ?_, ?_, trivial⟩
            all_goals
              intro ev w6 hb hev hd
              have ev0 : ev (.tmp 0) = .slice A n cap := hev _ (by simp)
              have ev1 : ev (.tmp 1) = .int .i64 a := hev _ (by simp)
              have ev8 : ev (.tmp 8) = .pointer (some ⟨X, 0, none⟩) := hev _ (by simp)
              have ev19 : ev (.tmp 19) = .slice (some ⟨gc, fc, none⟩) m cc := hev _ (by simp)
              have evf : ∀ f, ev (.func f) = .func (.func f) #[] #[] := fun f => hev _ (by simp)
              have evc : ∀ c, ev (.const c) = c := fun c => hev _ (by simp)
              have HB6 : Hid (Below w12.heap.size w12 w6) := hide ((Below.refl w12.heap.size w12).drew.trans hb)
              have j1 := (HB6.out.cell (World.block_lt_of_cell? _ _ z1)).trans z1
              clear hev hb z1
              simp [DepsG, Held.is] at hd
              try simp [OpGuardU, OpRuns, execOp, go_sem, Held.is, Below.refl, *]
            · exact .inl (HPX'.out w6 HB6.out)
            · exact .inl (HSM.out w6 HB6.out _ hd.1)
          · intro f w9 hb hf
            have e6 : f 6 = .bool true := hf 6 (by simp)
            have HB9 : Hid (Below w12.heap.size w12 w9) := hide ((Below.refl w12.heap.size w12).drew.trans hb)
            clear hf hb
            simp only [puts, Act.put, List.setIfInBounds_toArray, List.set_cons_succ, List.set_cons_zero]
            rw [e6]
            clear e6
            generalize f 116 = q116
            generalize f 117 = q117
            generalize f 118 = q118
            generalize f 119 = q119
            generalize f 120 = q120
            generalize f 121 = q121
            generalize f 122 = q122
            generalize f 123 = q123
            generalize f 124 = q124
            generalize f 125 = q125
            generalize f 126 = q126
            generalize f 127 = q127
            generalize f 128 = q128
            generalize f 129 = q129
            generalize f 130 = q130
            generalize f 131 = q131
            generalize f 132 = q132
            generalize f 133 = q133
            generalize f 134 = q134
            generalize f 135 = q135
            generalize f 136 = q136
            generalize f 137 = q137
            generalize f 138 = q138
            generalize f 139 = q139
            generalize f 140 = q140
            generalize f 141 = q141
            generalize f 142 = q142
            generalize f 143 = q143
            generalize f 144 = q144
            generalize f 145 = q145
            generalize f 146 = q146
            clear f
            go_wp2_with fail
            go_ret
            exact ⟨rfl, I13.out.bel.trans (HB9.out.mono I13.out.bel.size)⟩
      · have dlt : decide (k < a) = false := decide_eq_false hlt
        have dge : decide (a ≤ k) = true := decide_eq_true (by omega)
        have HCS := hide (Ep.at_cutStart HOK.out.rise (show a ≤ k by omega))
        have b1 : ((Ep.at_ l k).1 != (Ep.at_ l k).1) = false := bne_self_eq_false _
        have b2 : ((Ep.at_ l k).2 != (Ep.at_ l k).2) = false := bne_self_eq_false _
        clear hlt
        rcases Nat.eq_zero_or_pos (Ep.cutEnd l a).length with hq | hq
        · have HLQ := hide hq
          clear hq
          rcases Nat.eq_zero_or_pos n with hl0 | hl0
          · have hm0 : m = 0 := by omega
            have HN0 := hide hl0
            have dm0 : decide ((0 : Int) < m) = false := decide_eq_false (by omega)
            have dn0 : decide ((0 : Int) < n) = false := decide_eq_false (by omega)
            have em0 : ((m : Int) == 0) = true := by rw [beq_iff_eq]; omega
            have HM0 := hide hm0
            have HL0 := hide hl0
            clear hmp hm0 hl0
            go_enter Tryd.func7, Tryd.ntmps7
            go_upto_region 24 with (first
              | (go_at_call 10; refine HF.out.mono ?_; rintro e w2 ⟨rfl, hb2⟩; have HB2 := hide hb2; clear hb2)
              | (go_at_call 11; refine (HN.out _ HB2.out).mono ?_; rintro e w3 ⟨X, rfl, hx, hb3⟩; have I3 : Hid (Lns w [(X, l)] [] w3) := hide ((Lns.nil HB2.out).add hb3 hx HOK.out); clear hb3 hx)
              | (go_at_call 31; have _t := HA1; refine (HLK.out _).mono ?_; rintro e w5 ⟨rfl, e⟩; subst e; have HA2 := hide True.intro)
              | (go_at_call 31; refine (HLA.out _).mono ?_; rintro e w4 ⟨rfl, e⟩; subst e; have HA1 := hide True.intro)
              | (go_at_call 36; have _t := I10; refine (I10.out.at_ (i := 2) rfl k).mono ?_; rintro e w10 ⟨rfl, h10⟩; have I11 := hide h10; clear h10 I10; rw [HCS.out])
              | (go_at_call 36; have _t := I9; refine (I9.out.at_ (i := 1) rfl k).mono ?_; rintro e w10 ⟨rfl, h10⟩; have I10 := hide h10; clear h10 I9; skip)
              | (go_at_call 36; refine (I3.out.at_ (i := 0) rfl k).mono ?_; rintro e w5 ⟨rfl, h5⟩; have I5 := hide h5; clear h5 I3)
              | (go_at_call 15; have _t := I7; refine (I7.out.clone (i := 0) rfl).mono ?_; rintro e w8 ⟨Z, rfl, h8⟩; have I8 : Hid (Lns w [(X, l), (Y, Ep.cutEnd l a), (Z, l)] [] w8) := hide h8; clear h8 I7)
              | (go_at_call 15; refine (I5.out.clone (i := 0) rfl).mono ?_; rintro e w6 ⟨Y, rfl, h6⟩; have I6 : Hid (Lns w [(X, l), (Y, l)] [] w6) := hide h6; clear h6 I5)
              | (go_at_call 19; refine (I6.out.cutEnd (i := 1) rfl a).mono ?_; rintro e w7 ⟨rfl, h7⟩; have I7 : Hid (Lns w [(X, l), (Y, Ep.cutEnd l a)] [] w7) := hide h7; clear h7 I6)
              | (go_at_call 21; refine (I8.out.cutStart (i := 2) rfl a).mono ?_; rintro e w9 ⟨rfl, h9⟩; have I9 : Hid (Lns w [(X, l), (Y, Ep.cutEnd l a), (Z, Ep.cutStart l a)] [] w9) := hide h9; clear h9 I8)
              | (go_at_call 16; have _t := I12; refine (I12.out.pairs (i := 2) rfl).mono ?_; rintro e w12 ⟨Asl, cc, rfl, h0c, h12⟩; have I13 := hide h12; have H0C := hide h0c; clear h12 I12 h0c; rw [HLC.out])
              | (go_at_call 16; refine (I11.out.pairs (i := 1) rfl).mono ?_; rintro e w11 ⟨Aq, cq, rfl, -, h11⟩; have I12 := hide h11; skip; clear h11 I11; rw [HLQ.out])
              | fail)
            have hpc := I13.out.row 1 rfl
            have HPX := hide (fun V (hb : Below w12.heap.size w12 V) => (I13.out.below hb).pairs (i := 0) rfl)
            have HPX' : Hid (∀ V, Below w12.heap.size w12 V → Calls Tryd.prog 16 #[.pointer (some ⟨X, 0, none⟩)] V fun e w'' => ∃ v, e = .returned v ∧ Below V.heap.size V w'' ∧ (heldRow n l).p v w'') := hide fun V hb => by
              obtain ⟨S, hS, hok⟩ := (I13.out.below hb).get (i := 0) rfl
              refine (epPairs_any X l S V (by have := hok.len; omega) hS).mono ?_
              rintro e w'' ⟨v, rfl, hv, hb''⟩
              obtain ⟨A', c', rfl, hp', -, -⟩ := pairs_at hv
              exact ⟨_, rfl, hb'', A', c', by rw [HLN.out], hp'⟩
            have HSM : Hid (∀ V, Below w12.heap.size w12 V → ∀ v, (heldRow n l).p v V → Calls Tryd.prog 23 #[v, .slice A n cap] V fun e w'' => e = .returned (.bool true) ∧ Below V.heap.size V w'') := hide fun V hb v hv => by
              obtain ⟨A', c', rfl, hp'⟩ := hv
              exact samePairs_eq A' A c' cap n l V HLN.out (by omega) hp' (HAA.out.below (I13.out.bel.trans (hb.mono I13.out.bel.size))).at_
            clear HPX
            refine wp_region_guardU (G := GB) ⟨fun w => Below.refl _ w, fun h k => h.trans (k.mono h.size)⟩ [116, 117, 118, 119, 120, 121, 122, 123, 124, 125, 126, 127, 128, 129, 130, 131, 132, 133, 134, 135, 136, 137, 138, 139, 140, 141, 142, 143, 144, 145, 146, 6] (fun d => match d with
    | 116 => .is (.slice Asl m cc) | 117 => .is (.int .i64 m) | 119 => .is (.slice A n cap) | 120 => .is (.int .i64 n) | 122 => .is (.bool true) | 123 => .is (.bool true) | 124 => .is (.slice Asl m cc) | 125 => .is (.int .i64 m) | 139 => .is (.bool true) | 140 => .is (.bool true) | 141 => .is (.bool true) | 142 => .is (.pointer (some ⟨X, 0, none⟩)) | 143 => heldRow n l | 144 => .is (.slice A n cap) | 145 => .is (.bool true) | 146 => .is (.bool true) | 6 => .is (.bool true) | 118 => .is (.bool false) | 121 => .is (.bool false) | 126 => .is (.bool true) | 127 => .is (.bool true) | _ => .is undef) (by kernel_rfl) (by kernel_rfl) (by kernel_rfl) ?_ ?_
            · simp only [StepsGU]
              refine ⟨?_, ?_, ?_, ?_, ?_, ?_, ?_, ?_, ?_, ?_, ?_, ?_, ?_, ?_, ?_, ?_, ?_, ?_, ?_, ?_, ?_, ?_, ?_, ?_, ?_, ?_, ?_, ?_, ?_, ?_, ?_, ?_, trivial⟩
              all_goals
                intro ev w6 hb hev hd
                have ev0 : ev (.tmp 0) = .slice A n cap := hev _ (by simp)
                have ev1 : ev (.tmp 1) = .int .i64 a := hev _ (by simp)
                have ev8 : ev (.tmp 8) = .pointer (some ⟨X, 0, none⟩) := hev _ (by simp)
                have ev19 : ev (.tmp 19) = .slice Asl m cc := hev _ (by simp)
                have evf : ∀ f, ev (.func f) = .func (.func f) #[] #[] := fun f => hev _ (by simp)
                have evc : ∀ c, ev (.const c) = c := fun c => hev _ (by simp)
                have HB6 : Hid (Below w12.heap.size w12 w6) := hide ((Below.refl w12.heap.size w12).drew.trans hb)
                clear hev hb 
                simp [DepsG, Held.is] at hd
                try simp [OpGuardU, OpRuns, execOp, go_sem, Held.is, Below.refl, *]
              · exact HM0.out
              · exact HL0.out
              · exact .inl (HPX'.out w6 HB6.out)
              · exact .inl (HSM.out w6 HB6.out _ hd.1)
            · intro f w9 hb hf
              have e6 : f 6 = .bool true := hf 6 (by simp)
              have HB9 : Hid (Below w12.heap.size w12 w9) := hide ((Below.refl w12.heap.size w12).drew.trans hb)
              clear hf hb
              simp only [puts, Act.put, List.setIfInBounds_toArray, List.set_cons_succ, List.set_cons_zero]
              rw [e6]
              clear e6
              generalize f 116 = q116
              generalize f 117 = q117
              generalize f 118 = q118
              generalize f 119 = q119
              generalize f 120 = q120
              generalize f 121 = q121
              generalize f 122 = q122
              generalize f 123 = q123
              generalize f 124 = q124
              generalize f 125 = q125
              generalize f 126 = q126
              generalize f 127 = q127
              generalize f 128 = q128
              generalize f 129 = q129
              generalize f 130 = q130
              generalize f 131 = q131
              generalize f 132 = q132
              generalize f 133 = q133
              generalize f 134 = q134
              generalize f 135 = q135
              generalize f 136 = q136
              generalize f 137 = q137
              generalize f 138 = q138
              generalize f 139 = q139
              generalize f 140 = q140
              generalize f 141 = q141
              generalize f 142 = q142
              generalize f 143 = q143
              generalize f 144 = q144
              generalize f 145 = q145
              generalize f 146 = q146
              clear f
              go_wp2_with fail
              go_ret
              exact ⟨rfl, I13.out.bel.trans (HB9.out.mono I13.out.bel.size)⟩
          · have hm0 : 0 < m := hmp.2 hl0
            have dm0 : decide ((0 : Int) < m) = true := decide_eq_true (by omega)
            have dn0 : decide ((0 : Int) < n) = true := decide_eq_true (by omega)
            have em0 : ((m : Int) == 0) = false := by rw [beq_eq_false_iff_ne]; omega
            clear hmp
            go_enter Tryd.func7, Tryd.ntmps7
            go_upto_region 24 with (first
              | (go_at_call 10; refine HF.out.mono ?_; rintro e w2 ⟨rfl, hb2⟩; have HB2 := hide hb2; clear hb2)
              | (go_at_call 11; refine (HN.out _ HB2.out).mono ?_; rintro e w3 ⟨X, rfl, hx, hb3⟩; have I3 : Hid (Lns w [(X, l)] [] w3) := hide ((Lns.nil HB2.out).add hb3 hx HOK.out); clear hb3 hx)
              | (go_at_call 31; have _t := HA1; refine (HLK.out _).mono ?_; rintro e w5 ⟨rfl, e⟩; subst e; have HA2 := hide True.intro)
              | (go_at_call 31; refine (HLA.out _).mono ?_; rintro e w4 ⟨rfl, e⟩; subst e; have HA1 := hide True.intro)
              | (go_at_call 36; have _t := I10; refine (I10.out.at_ (i := 2) rfl k).mono ?_; rintro e w10 ⟨rfl, h10⟩; have I11 := hide h10; clear h10 I10; rw [HCS.out])
              | (go_at_call 36; have _t := I9; refine (I9.out.at_ (i := 1) rfl k).mono ?_; rintro e w10 ⟨rfl, h10⟩; have I10 := hide h10; clear h10 I9; skip)
              | (go_at_call 36; refine (I3.out.at_ (i := 0) rfl k).mono ?_; rintro e w5 ⟨rfl, h5⟩; have I5 := hide h5; clear h5 I3)
              | (go_at_call 15; have _t := I7; refine (I7.out.clone (i := 0) rfl).mono ?_; rintro e w8 ⟨Z, rfl, h8⟩; have I8 : Hid (Lns w [(X, l), (Y, Ep.cutEnd l a), (Z, l)] [] w8) := hide h8; clear h8 I7)
              | (go_at_call 15; refine (I5.out.clone (i := 0) rfl).mono ?_; rintro e w6 ⟨Y, rfl, h6⟩; have I6 : Hid (Lns w [(X, l), (Y, l)] [] w6) := hide h6; clear h6 I5)
              | (go_at_call 19; refine (I6.out.cutEnd (i := 1) rfl a).mono ?_; rintro e w7 ⟨rfl, h7⟩; have I7 : Hid (Lns w [(X, l), (Y, Ep.cutEnd l a)] [] w7) := hide h7; clear h7 I6)
              | (go_at_call 21; refine (I8.out.cutStart (i := 2) rfl a).mono ?_; rintro e w9 ⟨rfl, h9⟩; have I9 : Hid (Lns w [(X, l), (Y, Ep.cutEnd l a), (Z, Ep.cutStart l a)] [] w9) := hide h9; clear h9 I8)
              | (go_at_call 16; have _t := I12; refine (I12.out.pairs (i := 2) rfl).mono ?_; rintro e w12 ⟨Asl, cc, rfl, h0c, h12⟩; have I13 := hide h12; have H0C := hide h0c; clear h12 I12 h0c; rw [HLC.out])
              | (go_at_call 16; refine (I11.out.pairs (i := 1) rfl).mono ?_; rintro e w11 ⟨Aq, cq, rfl, -, h11⟩; have I12 := hide h11; skip; clear h11 I11; rw [HLQ.out])
              | fail)
            have hpc := I13.out.row 1 rfl
            have HPX := hide (fun V (hb : Below w12.heap.size w12 V) => (I13.out.below hb).pairs (i := 0) rfl)
            obtain ⟨gc, fc, ec, -, -, z1⟩ := hpc.at_ 0 (by rw [HLC.out]; exact hm0)
            simp only at ec
            subst ec
            rw [Nat.zero_mul, Nat.add_zero] at z1
            obtain ⟨c0, hc0⟩ : ∃ c0, c0 = (Ep.pr (Ep.cutStart l a) 0).st := ⟨_, rfl⟩
            simp only at z1
            rw [← hc0] at z1
            clear hc0 hpc
            have dm : min a c0 ≤ c0 := Int.min_le_right _ _
            have HPX' : Hid (∀ V, Below w12.heap.size w12 V → Calls Tryd.prog 16 #[.pointer (some ⟨X, 0, none⟩)] V fun e w'' => ∃ v, e = .returned v ∧ Below V.heap.size V w'' ∧ (heldRow n l).p v w'') := hide fun V hb => by
              obtain ⟨S, hS, hok⟩ := (I13.out.below hb).get (i := 0) rfl
              refine (epPairs_any X l S V (by have := hok.len; omega) hS).mono ?_
              rintro e w'' ⟨v, rfl, hv, hb''⟩
              obtain ⟨A', c', rfl, hp', -, -⟩ := pairs_at hv
              exact ⟨_, rfl, hb'', A', c', by rw [HLN.out], hp'⟩
            have HSM : Hid (∀ V, Below w12.heap.size w12 V → ∀ v, (heldRow n l).p v V → Calls Tryd.prog 23 #[v, .slice A n cap] V fun e w'' => e = .returned (.bool true) ∧ Below V.heap.size V w'') := hide fun V hb v hv => by
              obtain ⟨A', c', rfl, hp'⟩ := hv
              exact samePairs_eq A' A c' cap n l V HLN.out (by omega) hp' (HAA.out.below (I13.out.bel.trans (hb.mono I13.out.bel.size))).at_
            clear HPX
            refine wp_region_guardU (G := GB) ⟨fun w => Below.refl _ w, fun h k => h.trans (k.mono h.size)⟩ [116, 117, 118, 119, 120, 121, 122, 123, 124, 125, 126, 127, 128, 129, 130, 131, 132, 133, 134, 135, 136, 137, 138, 139, 140, 141, 142, 143, 144, 145, 146, 6] (fun d => match d with
    | 116 => .is (.slice (some ⟨gc, fc, none⟩) m cc) | 117 => .is (.int .i64 m) | 119 => .is (.slice A n cap) | 120 => .is (.int .i64 n) | 122 => .is (.bool true) | 123 => .is (.bool true) | 124 => .is (.slice (some ⟨gc, fc, none⟩) m cc) | 125 => .is (.int .i64 m) | 139 => .is (.bool true) | 140 => .is (.bool true) | 141 => .is (.bool true) | 142 => .is (.pointer (some ⟨X, 0, none⟩)) | 143 => heldRow n l | 144 => .is (.slice A n cap) | 145 => .is (.bool true) | 146 => .is (.bool true) | 6 => .is (.bool true) | 118 => .is (.bool true) | 121 => .is (.bool true) | 126 => .is (.bool false) | 127 => .is (.bool false) | 128 => .is (.slice (some ⟨gc, fc, none⟩) m cc) | 129 => .is (.pointer (some ⟨gc, fc, none⟩)) | 130 => .is (.pointer (some ⟨gc, fc + 1, none⟩)) | 131 => .is (.int .i64 c0) | 132 => .is (.int .i64 a) | 133 => .is (.slice (some ⟨gc, fc, none⟩) m cc) | 134 => .is (.pointer (some ⟨gc, fc, none⟩)) | 135 => .is (.pointer (some ⟨gc, fc + 1, none⟩)) | 136 => .is (.int .i64 c0) | 137 => .is (.int .i64 (min a c0)) | 138 => .is (.bool true) | _ => .is undef) (by kernel_rfl) (by kernel_rfl) (by kernel_rfl) ?_ ?_
            · simp only [StepsGU]
              refine ⟨?_, ?_, ?_, ?_, ?_, ?_, ?_, ?_, ?_, ?_, ?_, ?_, ?_, ?_, ?_, ?_, ?_, ?_, ?_, ?_, ?_, ?_, ?_, ?_, ?_, ?_, ?_, ?_, ?_, ?_, ?_, ?_, trivial⟩
              all_goals
                intro ev w6 hb hev hd
                have ev0 : ev (.tmp 0) = .slice A n cap := hev _ (by simp)
                have ev1 : ev (.tmp 1) = .int .i64 a := hev _ (by simp)
                have ev8 : ev (.tmp 8) = .pointer (some ⟨X, 0, none⟩) := hev _ (by simp)
                have ev19 : ev (.tmp 19) = .slice (some ⟨gc, fc, none⟩) m cc := hev _ (by simp)
                have evf : ∀ f, ev (.func f) = .func (.func f) #[] #[] := fun f => hev _ (by simp)
                have evc : ∀ c, ev (.const c) = c := fun c => hev _ (by simp)
                have HB6 : Hid (Below w12.heap.size w12 w6) := hide ((Below.refl w12.heap.size w12).drew.trans hb)
                have j1 := (HB6.out.cell (World.block_lt_of_cell? _ _ z1)).trans z1
                clear hev hb z1
                simp [DepsG, Held.is] at hd
                try simp [OpGuardU, OpRuns, execOp, go_sem, Held.is, Below.refl, *]
              · exact .inl (HPX'.out w6 HB6.out)
              · exact .inl (HSM.out w6 HB6.out _ hd.1)
            · intro f w9 hb hf
              have e6 : f 6 = .bool true := hf 6 (by simp)
              have HB9 : Hid (Below w12.heap.size w12 w9) := hide ((Below.refl w12.heap.size w12).drew.trans hb)
              clear hf hb
              simp only [puts, Act.put, List.setIfInBounds_toArray, List.set_cons_succ, List.set_cons_zero]
              rw [e6]
              clear e6
              generalize f 116 = q116
              generalize f 117 = q117
              generalize f 118 = q118
              generalize f 119 = q119
              generalize f 120 = q120
              generalize f 121 = q121
              generalize f 122 = q122
              generalize f 123 = q123
              generalize f 124 = q124
              generalize f 125 = q125
              generalize f 126 = q126
              generalize f 127 = q127
              generalize f 128 = q128
              generalize f 129 = q129
              generalize f 130 = q130
              generalize f 131 = q131
              generalize f 132 = q132
              generalize f 133 = q133
              generalize f 134 = q134
              generalize f 135 = q135
              generalize f 136 = q136
              generalize f 137 = q137
              generalize f 138 = q138
              generalize f 139 = q139
              generalize f 140 = q140
              generalize f 141 = q141
              generalize f 142 = q142
              generalize f 143 = q143
              generalize f 144 = q144
              generalize f 145 = q145
              generalize f 146 = q146
              clear f
              go_wp2_with fail
              go_ret
              exact ⟨rfl, I13.out.bel.trans (HB9.out.mono I13.out.bel.size)⟩
        · obtain ⟨mq, hmq⟩ : ∃ mq, (Ep.cutEnd l a).length = mq + 1 := ⟨(Ep.cutEnd l a).length - 1, by omega⟩
          have HLQ := hide hmq
          have HQL : Hid (decide (a ≤ (Ep.pr (Ep.cutEnd l a) mq).st) = false) := hide (decide_eq_false (by have := Ep.cutEnd_lt HOK.out.rise a hq; rw [hmq, Nat.add_sub_cancel] at this; omega))
          have hmq20 : mq + 1 ≤ 20 := by rw [← hmq, Ep.len_cutEnd]; have := Ep.ahead_le l a; have := HLN.out; omega
          have hwq : IntKind.i64.wrap ((mq : Int) + 1 - 1) = (mq : Int) := by rw [IntKind.wrap_i64]; omega
          have dq0 : decide ((0 : Int) < (mq : Int) + 1) = true := decide_eq_true (by omega)
          clear hq hmq
          have hl0 : 0 < n := by have h1 := HLQ.out; have h2 := HLN.out; rw [Ep.len_cutEnd] at h1; have := Ep.ahead_le l a; omega
          have hm0 : 0 < m := hmp.2 hl0
          have dm0 : decide ((0 : Int) < m) = true := decide_eq_true (by omega)
          have dn0 : decide ((0 : Int) < n) = true := decide_eq_true (by omega)
          have em0 : ((m : Int) == 0) = false := by rw [beq_eq_false_iff_ne]; omega
          clear hmp
          go_enter Tryd.func7, Tryd.ntmps7
          go_upto_region 24 with (first
            | (go_at_call 10; refine HF.out.mono ?_; rintro e w2 ⟨rfl, hb2⟩; have HB2 := hide hb2; clear hb2)
            | (go_at_call 11; refine (HN.out _ HB2.out).mono ?_; rintro e w3 ⟨X, rfl, hx, hb3⟩; have I3 : Hid (Lns w [(X, l)] [] w3) := hide ((Lns.nil HB2.out).add hb3 hx HOK.out); clear hb3 hx)
            | (go_at_call 31; have _t := HA1; refine (HLK.out _).mono ?_; rintro e w5 ⟨rfl, e⟩; subst e; have HA2 := hide True.intro)
            | (go_at_call 31; refine (HLA.out _).mono ?_; rintro e w4 ⟨rfl, e⟩; subst e; have HA1 := hide True.intro)
            | (go_at_call 36; have _t := I10; refine (I10.out.at_ (i := 2) rfl k).mono ?_; rintro e w10 ⟨rfl, h10⟩; have I11 := hide h10; clear h10 I10; rw [HCS.out])
            | (go_at_call 36; have _t := I9; refine (I9.out.at_ (i := 1) rfl k).mono ?_; rintro e w10 ⟨rfl, h10⟩; have I10 := hide h10; clear h10 I9; skip)
            | (go_at_call 36; refine (I3.out.at_ (i := 0) rfl k).mono ?_; rintro e w5 ⟨rfl, h5⟩; have I5 := hide h5; clear h5 I3)
            | (go_at_call 15; have _t := I7; refine (I7.out.clone (i := 0) rfl).mono ?_; rintro e w8 ⟨Z, rfl, h8⟩; have I8 : Hid (Lns w [(X, l), (Y, Ep.cutEnd l a), (Z, l)] [] w8) := hide h8; clear h8 I7)
            | (go_at_call 15; refine (I5.out.clone (i := 0) rfl).mono ?_; rintro e w6 ⟨Y, rfl, h6⟩; have I6 : Hid (Lns w [(X, l), (Y, l)] [] w6) := hide h6; clear h6 I5)
            | (go_at_call 19; refine (I6.out.cutEnd (i := 1) rfl a).mono ?_; rintro e w7 ⟨rfl, h7⟩; have I7 : Hid (Lns w [(X, l), (Y, Ep.cutEnd l a)] [] w7) := hide h7; clear h7 I6)
            | (go_at_call 21; refine (I8.out.cutStart (i := 2) rfl a).mono ?_; rintro e w9 ⟨rfl, h9⟩; have I9 : Hid (Lns w [(X, l), (Y, Ep.cutEnd l a), (Z, Ep.cutStart l a)] [] w9) := hide h9; clear h9 I8)
            | (go_at_call 16; have _t := I12; refine (I12.out.pairs (i := 2) rfl).mono ?_; rintro e w12 ⟨Asl, cc, rfl, h0c, h12⟩; have I13 := hide h12; have H0C := hide h0c; clear h12 I12 h0c; rw [HLC.out])
            | (go_at_call 16; refine (I11.out.pairs (i := 1) rfl).mono ?_; rintro e w11 ⟨Aq, cq, rfl, -, h11⟩; have I12 := hide h11; have hq11 : PrAt w11 Aq cq (Ep.cutEnd l a) := h11.row 0 rfl; obtain ⟨gq, fq, eq, -, -, kq⟩ := hq11.at_ mq (by rw [HLQ.out]; exact Nat.lt_succ_self mq); subst eq; have hcq : mq + 1 ≤ cq := HLQ.out ▸ hq11.le; have dq := HQL.out; generalize (Ep.pr (Ep.cutEnd l a) mq).st = sq at kq dq; clear hq11; clear h11 I11; rw [HLQ.out])
            | fail)
          have hpc := I13.out.row 1 rfl
          have HPX := hide (fun V (hb : Below w12.heap.size w12 V) => (I13.out.below hb).pairs (i := 0) rfl)
          obtain ⟨gc, fc, ec, -, -, z1⟩ := hpc.at_ 0 (by rw [HLC.out]; exact hm0)
          simp only at ec
          subst ec
          rw [Nat.zero_mul, Nat.add_zero] at z1
          obtain ⟨c0, hc0⟩ : ∃ c0, c0 = (Ep.pr (Ep.cutStart l a) 0).st := ⟨_, rfl⟩
          simp only at z1
          rw [← hc0] at z1
          clear hc0 hpc
          have dm : min a c0 ≤ c0 := Int.min_le_right _ _
          have HPX' : Hid (∀ V, Below w12.heap.size w12 V → Calls Tryd.prog 16 #[.pointer (some ⟨X, 0, none⟩)] V fun e w'' => ∃ v, e = .returned v ∧ Below V.heap.size V w'' ∧ (heldRow n l).p v w'') := hide fun V hb => by
            obtain ⟨S, hS, hok⟩ := (I13.out.below hb).get (i := 0) rfl
            refine (epPairs_any X l S V (by have := hok.len; omega) hS).mono ?_
            rintro e w'' ⟨v, rfl, hv, hb''⟩
            obtain ⟨A', c', rfl, hp', -, -⟩ := pairs_at hv
            exact ⟨_, rfl, hb'', A', c', by rw [HLN.out], hp'⟩
          have HSM : Hid (∀ V, Below w12.heap.size w12 V → ∀ v, (heldRow n l).p v V → Calls Tryd.prog 23 #[v, .slice A n cap] V fun e w'' => e = .returned (.bool true) ∧ Below V.heap.size V w'') := hide fun V hb v hv => by
            obtain ⟨A', c', rfl, hp'⟩ := hv
            exact samePairs_eq A' A c' cap n l V HLN.out (by omega) hp' (HAA.out.below (I13.out.bel.trans (hb.mono I13.out.bel.size))).at_
          clear HPX
          refine wp_region_guardU (G := GB) ⟨fun w => Below.refl _ w, fun h k => h.trans (k.mono h.size)⟩ [116, 117, 118, 119, 120, 121, 122, 123, 124, 125, 126, 127, 128, 129, 130, 131, 132, 133, 134, 135, 136, 137, 138, 139, 140, 141, 142, 143, 144, 145, 146, 6] (fun d => match d with
    | 116 => .is (.slice (some ⟨gc, fc, none⟩) m cc) | 117 => .is (.int .i64 m) | 119 => .is (.slice A n cap) | 120 => .is (.int .i64 n) | 122 => .is (.bool true) | 123 => .is (.bool true) | 124 => .is (.slice (some ⟨gc, fc, none⟩) m cc) | 125 => .is (.int .i64 m) | 139 => .is (.bool true) | 140 => .is (.bool true) | 141 => .is (.bool true) | 142 => .is (.pointer (some ⟨X, 0, none⟩)) | 143 => heldRow n l | 144 => .is (.slice A n cap) | 145 => .is (.bool true) | 146 => .is (.bool true) | 6 => .is (.bool true) | 118 => .is (.bool true) | 121 => .is (.bool true) | 126 => .is (.bool false) | 127 => .is (.bool false) | 128 => .is (.slice (some ⟨gc, fc, none⟩) m cc) | 129 => .is (.pointer (some ⟨gc, fc, none⟩)) | 130 => .is (.pointer (some ⟨gc, fc + 1, none⟩)) | 131 => .is (.int .i64 c0) | 132 => .is (.int .i64 a) | 133 => .is (.slice (some ⟨gc, fc, none⟩) m cc) | 134 => .is (.pointer (some ⟨gc, fc, none⟩)) | 135 => .is (.pointer (some ⟨gc, fc + 1, none⟩)) | 136 => .is (.int .i64 c0) | 137 => .is (.int .i64 (min a c0)) | 138 => .is (.bool true) | _ => .is undef) (by kernel_rfl) (by kernel_rfl) (by kernel_rfl) ?_ ?_
          · simp only [StepsGU]
            refine ⟨?_, ?_, ?_, ?_, ?_, ?_, ?_, ?_, ?_, ?_, ?_, ?_, ?_, ?_, ?_, ?_, ?_, ?_, ?_, ?_, ?_, ?_, ?_, ?_, ?_, ?_, ?_, ?_, ?_, ?_, ?_, ?_, trivial⟩
            all_goals
              intro ev w6 hb hev hd
              have ev0 : ev (.tmp 0) = .slice A n cap := hev _ (by simp)
              have ev1 : ev (.tmp 1) = .int .i64 a := hev _ (by simp)
              have ev8 : ev (.tmp 8) = .pointer (some ⟨X, 0, none⟩) := hev _ (by simp)
              have ev19 : ev (.tmp 19) = .slice (some ⟨gc, fc, none⟩) m cc := hev _ (by simp)
              have evf : ∀ f, ev (.func f) = .func (.func f) #[] #[] := fun f => hev _ (by simp)
              have evc : ∀ c, ev (.const c) = c := fun c => hev _ (by simp)
              have HB6 : Hid (Below w12.heap.size w12 w6) := hide ((Below.refl w12.heap.size w12).drew.trans hb)
              have j1 := (HB6.out.cell (World.block_lt_of_cell? _ _ z1)).trans z1
              clear hev hb z1
              simp [DepsG, Held.is] at hd
              try simp [OpGuardU, OpRuns, execOp, go_sem, Held.is, Below.refl, *]
            · exact .inl (HPX'.out w6 HB6.out)
            · exact .inl (HSM.out w6 HB6.out _ hd.1)
          · intro f w9 hb hf
            have e6 : f 6 = .bool true := hf 6 (by simp)
            have HB9 : Hid (Below w12.heap.size w12 w9) := hide ((Below.refl w12.heap.size w12).drew.trans hb)
            clear hf hb
            simp only [puts, Act.put, List.setIfInBounds_toArray, List.set_cons_succ, List.set_cons_zero]
            rw [e6]
            clear e6
            generalize f 116 = q116
            generalize f 117 = q117
            generalize f 118 = q118
            generalize f 119 = q119
            generalize f 120 = q120
            generalize f 121 = q121
            generalize f 122 = q122
            generalize f 123 = q123
            generalize f 124 = q124
            generalize f 125 = q125
            generalize f 126 = q126
            generalize f 127 = q127
            generalize f 128 = q128
            generalize f 129 = q129
            generalize f 130 = q130
            generalize f 131 = q131
            generalize f 132 = q132
            generalize f 133 = q133
            generalize f 134 = q134
            generalize f 135 = q135
            generalize f 136 = q136
            generalize f 137 = q137
            generalize f 138 = q138
            generalize f 139 = q139
            generalize f 140 = q140
            generalize f 141 = q141
            generalize f 142 = q142
            generalize f 143 = q143
            generalize f 144 = q144
            generalize f 145 = q145
            generalize f 146 = q146
            clear f
            go_wp2_with fail
            go_ret
            exact ⟨rfl, I13.out.bel.trans (HB9.out.mono I13.out.bel.size)⟩
end Go.Proofs.YtplpakdbahlgaaaDoor

namespace Go.Proofs.YtplpakdbahlgaaaDoor.CutsLaw9
open Go.Proofs.YtplpakdbahlgaaaDoor
open Go.RowKit Go.ChangeShapes Go.WideShapes Go.ChangeAt

set_option maxRecDepth 100000 in
theorem lifted (os : Os) (started : os.Started) (H : Type) (enc : TypeId × Value → H) :
    ReturnsInHanded {} Tryd.checked os 7 .any (fun w args => (Rows.epochCutsSpec.pre enc Tryd.prog Tryd.f7 [] false w args ∧ laidMetH Tryd.prog laidE3 w) ∧ sizedMet enc Tryd.prog Tryd.f7 (OpenSpec.ofChange Rows.epochCutsSpec) false w args)
      (Rows.epochCutsSpec.post enc Tryd.prog Tryd.f7 false true false false) := by
  refine returnsInHanded_of_change_and (C := Tryd.checked) (X := fun w _ => laidMetH Tryd.prog laidE3 w) (fun _ _ _ hh h => h.of_heap hh) own started (by kernel_rfl) Tryd.func7
    (ChangeSpec.witness_shaped (enc := enc) (C := Tryd.checked) (os := os) (X := fun w _ => laidMetH Tryd.prog laidE3 w) false (World.doorLaid Tryd.prog 400 os) #[.slice none 0 0, .int .i64 0, .int .i64 0] 8 rfl (World.shaped_of_RefB (by kernel_rfl) (by kernel_rfl)) (by kernel_rfl) (by kernel_rfl) (by kernel_rfl) (door_met_e3 os _)) ?_
  intro W base args ds gs before hval0 hW _ _ hL _
  have hval : ∀ (j : Nat) t v, Tryd.f7.params[j]? = some t → args[j]? = some v → Value.okWide Tryd.prog W .any base t v := hval0
  have hW' := hW
  obtain ⟨p, q, hA0, hV, rfl, hfz, hnd⟩ := hW
  have hA : DataW.TrodAll enc Tryd.prog W 0 (fun _ => true) true Tryd.f7.params.toList args.toList ds p := hA0
  rw [Tryd.params7] at hA hval
  obtain ⟨v0, vs0, d0, ds0, p0, q0, hargs, rfl, rfl, h0, r0⟩ := trodAll_cons hA
  obtain ⟨v1, vs1, d1, ds1, p1, q1, rfl, rfl, rfl, h1, r1⟩ := trodAll_cons r0
  obtain ⟨v2, vs2, d2, ds2, p2, q2, rfl, rfl, rfl, h2, r2⟩ := trodAll_cons r1
  obtain ⟨rfl, rfl, rfl⟩ := trodAll_nil r2
  obtain rfl : args = #[v0, v1, v2] := by cases args; simp_all
  obtain ⟨rfl, rfl⟩ := trodVars_none hV
  obtain ⟨a0, len0, cap0, rfl⟩ := okWide_slice Tryd.underlying22 (hval 0 22 v0 rfl rfl)
  have k0 := h0
  have lt0 : ∀ x ∈ p0, x.block < W.heap.size := by obtain ⟨m, hm⟩ := k0; exact DataW.trod_lt m _ _ _ hm
  obtain ⟨l0, rfl, pa0⟩ := pairs_of h0
  obtain ⟨a1, rfl, rfl, rfl, w1⟩ := open_int Tryd.underlying2 (hval 1 2 v1 rfl rfl) h1
  have hb1 := bounds_i64 w1
  obtain ⟨a2, rfl, rfl, rfl, w2⟩ := open_int Tryd.underlying2 (hval 2 2 v2 rfl rfl) h2
  have hb2 := bounds_i64 w2
  clear hA0 hval0
  obtain ⟨ps, hsent⟩ := sents_of_e3 hL
  refine (cuts9_any W ps hsent a0 cap0 l0.length l0 a1 a2 rfl pa0 hb1 hb2).mono fun e W' ⟨he, bel⟩ => ?_
  subst he
  exact ⟨_, rfl, _, _, _, [], _, [], hW', trodAll_mk1 (shut_bool Tryd.underlying4 _), (trodAll_cons_mk (Below.trod laidOut (by kernel_rfl) (of_decide_eq_true (by kernel_rfl)) k0 bel lt0) (trodAll_cons_mk (shut_int Tryd.underlying2 w1) (trodAll_cons_mk (shut_int Tryd.underlying2 w2) trodAll_mk0))), rfl, bel.frame _, fun h => by cases h⟩

theorem row : Rows.EpochCutsSaid :=
  OpenClaim.holds_of_wide 7 Tryd.f7 rfl rfl rfl rfl rfl rfl rfl ⟨rfl, rfl, rfl, rfl, rfl⟩ rfl rfl rfl rfl rfl (by kernel_rfl) Tryd.func7 (by kernel_rfl)
    (of_decide_eq_true (by kernel_rfl)) (by unfold Func.isWrapper; first | (rw [if_pos (by decide +kernel)]; kernel_rfl) | (rw [if_neg (by decide +kernel)]; exact ⟨rfl, rfl⟩))
    (fun os started H enc _ => lifted os started H enc)

theorem proved : Rows.EpochCutsCardSaid :=
  Claim7.holds_tied_plain_at .later [] _ true _ true
    row (fun _ h => by cases h) (by kernel_rfl) (fun _ h => by cases h) epochCuts_row_tie rfl ⟨rfl, rfl⟩ (by kernel_rfl) rfl
    (fun f fn hf hfn => by
      obtain rfl : f = 7 := Option.some.inj ((show Tryd.prog.funcNamed "cordwood/cordwoodlaw9.EpochCuts" = some 7 by kernel_rfl).symm.trans hf) |>.symm
      obtain rfl : fn = Tryd.f7 := (Option.some.inj (Tryd.func7.symm.trans hfn)).symm
      exact ⟨by kernel_rfl, fun j t ht => by
        rw [Tryd.params7] at ht
        have hm : t ∈ [22, 2, 2] := by simpa using Array.mem_of_getElem? ht
        have hall : ([22, 2, 2].all fun u => !Tryd.prog.wantsStandIn u) = true := by kernel_rfl
        exact (show Tryd.prog.wantsStandIn t = false by simpa using List.all_eq_true.1 hall t hm)⟩)
    (by kernel_rfl)
end Go.Proofs.YtplpakdbahlgaaaDoor.CutsLaw9
