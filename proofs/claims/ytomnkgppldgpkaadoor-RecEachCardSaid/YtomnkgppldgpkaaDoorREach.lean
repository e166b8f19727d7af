/-
  A statement in a round of a range over a function whose order is open, with operations that are guarded and calls that may write: the law of RegG, inside the round's fence. Not of any one program.
  The walk through RecEach.
  The walk through RecEach: all records come in their order, with their offsets; they can be left; each is its own.
-/
import Derived.Test.YtomnkgppldgpkaaDoorRegG
import Derived.OrdersIn
import Derived.CallsIn
import Derived.RangeFuncCalls
import Derived.TacticsIn
import Derived.Test.YtomnkgppldgpkaaDoorRcH
import Derived.Test.YtomnkgppldgpkaaDoorRRow
import Derived.Test.YtomnkgppldgpkaaDoorRSame
import Derived.Test.YtomnkgppldgpkaaDoorNums
import Derived.Test.YtomnkgppldgpkaaDoorRcK
import Derived.Test.YtomnkgppldgpkaaDoorRcA
import Derived.Deep.RegionHeld3
import Derived.StillTailTactics
namespace Go.Proofs.YtomnkgppldgpkaaDoor
open Go Go.RowKit

theorem not_defer {ops : Array Oper} (h : (ops.all fun o => match o.op with | .defer _ => false | _ => true) = true) {i : Nat} {o : Oper} (ho : ops[i]? = some o) : ∀ c, o.op ≠ .defer c := by
  intro c hc
  have := Array.all_eq_true_iff_forall_mem.1 h o (Array.mem_of_getElem? ho)
  rw [hc] at this
  cases this
theorem OpRuns.wpIn {l n : Nat} {P : Program} {a : Act} {o : Oper} {w : World} {Post : Value → World → Prop} {K : Act → World → Prop} {Q : Exit → Act → World → Prop}
    (h : OpRuns P a.eval o w Post) (hd : ∀ c, o.op ≠ .defer c) (hK : ∀ v w', Post v w' → K (a.put o.dst v) w') : o.wpIn (Fence.wide.inRound l) n P a w K Q := by
  refine ⟨fun _ _ => trivial, ?_⟩
  rw [Oper.semAt_eq _ _ _ hd]
  unfold OpRuns at h
  generalize (execOp a.eval o).run P w = r at *
  cases r with
  | ok m w' =>
    cases m <;> simp only at h <;> simp only [Oper.uponIn]
    case value v => exact hK _ _ h
    case skip => exact hK _ _ h
    case enter f args => exact ⟨fun h => (by cases h), CallsIn.inRound l (callsIn_wide.2 (h.mono fun e w'' ⟨v, he, hp⟩ => by subst he; exact hK _ _ hp))⟩
  | halt x w' => simp only at h

theorem wpAnyIn_guard {l n : Nat} {P : Program} {ops : Array Oper} {Q : Exit → Act → World → Prop} {D : Nat → Value → World → Prop} {G : World → World → Prop} (hG : Goes G) {a : Act} {w : World} (hB : guardAll ops = true) (hnd : (ops.all fun o => match o.op with | .defer _ => false | _ => true) = true)
    (hfit : ∀ d ∈ dstsAll ops, d < a.tmps.size)
    (stable : ∀ d v w1 w2, D d v w1 → G w1 w2 → D d v w2)
    (step : ∀ i o, ops[i]? = some o → ∀ (ev : Operand → Value) w1, G w w1 → (∀ x, (∀ d ∈ dstsAll ops, x ≠ .tmp d) → ev x = a.eval x) →
      (∀ e ∈ o.after.toList, Region.binds .any e = true → D (dstOf ops e.on) (ev (.tmp (dstOf ops e.on))) w1) → OpGuard P ev o (dstOf ops) w1 fun v w2 => G w1 w2 ∧ D (dstOf ops i) v w2)
    (last : ∀ f w1, G w w1 → (∀ d ∈ dstsAll ops, D d (f d) w1) → Q .normal (puts a f (dstsAll ops)) w1) :
    ∀ (fuel : Nat) (listed : Array Bool) (a' : Act) (w' : World), listed.size = ops.size → todo listed = fuel → MidstG G ops D a w listed a' w' → wpAnyIn (Fence.wide.inRound l) n P .any ops Q fuel listed a' w' := by
  have hB' := hB
  simp only [guardAll, Bool.and_eq_true, decide_eq_true_eq, List.all_eq_true, List.mem_range] at hB'
  obtain ⟨hall, hndp⟩ := hB'
  have form : ∀ (i : Nat) (o : Oper), ops[i]? = some o → (∀ j b, o.guard = some (j, b) → j < i ∧ ∃ e ∈ o.after.toList, e.on = j ∧ Region.binds .any e = true) ∧ (∀ e ∈ o.after.toList, e.on < i) ∧ o.dst.isSome = true := by
    intro i o ho
    have hi : i < ops.size := (Array.getElem?_eq_some_iff.1 ho).1
    have h := hall i hi
    rw [ho] at h
    simp only [Bool.and_eq_true] at h
    refine ⟨fun j b hg => ?_, fun e he => ?_, h.2⟩
    · have h1 := h.1.1
      rw [hg] at h1
      simp only [Bool.and_eq_true, decide_eq_true_eq, Array.any_eq_true, beq_iff_eq] at h1
      obtain ⟨h2, k, hk, h3, h4⟩ := h1
      exact ⟨h2, o.after[k], by simp, h3, h4⟩
    · have := Array.all_eq_true_iff_forall_mem.1 h.1.2 e (by simpa using he)
      simpa using this
  have alive : ∀ listed : Array Bool, listed.size = ops.size → 0 < todo listed → Region.ready .any ops listed ≠ [] := by
    intro listed hs ht he
    obtain ⟨i, hi⟩ : ∃ i, i < ops.size ∧ listed.getD i true = false := by
      unfold todo at ht
      obtain ⟨i, hi, e⟩ := List.mem_iff_getElem.1 (List.count_pos_iff.1 ht)
      have hi' : i < listed.size := by simpa using hi
      exact ⟨i, by omega, by simpa [hi'] using e⟩
    obtain ⟨n, ⟨hn, hf⟩, hmin⟩ : ∃ n, (n < ops.size ∧ listed.getD n true = false) ∧ ∀ m, m < n → listed.getD m true = true := by
      have : ∀ k i, i < k → i < ops.size → listed.getD i true = false → ∃ n, (n < ops.size ∧ listed.getD n true = false) ∧ ∀ m, m < n → listed.getD m true = true := by
        intro k
        induction k with
        | zero => intro i h; omega
        | succ k ih =>
          intro i hik h1 h2
          by_cases hm : ∃ m, m < i ∧ listed.getD m true = false
          · obtain ⟨m, hmi, hmf⟩ := hm
            exact ih m (by omega) (by omega) hmf
          · refine ⟨i, ⟨h1, h2⟩, fun m hmi => ?_⟩
            rcases Bool.eq_false_or_eq_true (listed.getD m true) with h | h
            · exact h
            · exact absurd ⟨m, hmi, h⟩ hm
      exact this (i + 1) i (by omega) hi.1 hi.2
    have hmem : n ∈ Region.ready .any ops listed := by
      refine mem_ready.2 ⟨hf, ops[n], by simp [hn], fun e hee _ => ?_⟩
      have hlt := (form n ops[n] (by simp [hn])).2.1 e (by simpa using hee)
      have := hmin e.on hlt
      have hsz : e.on < listed.size := by omega
      simpa [hsz] using this
    rw [he] at hmem
    cases hmem
  intro fuel
  induction fuel with
  | zero =>
    intro listed a' w' hs ht M
    have hdone : ∀ i, i < ops.size → listed.getD i true = true := by
      intro i hi
      rcases Bool.eq_false_or_eq_true (listed.getD i true) with h | h
      · exact h
      · have := todo_set (i := i) (listed := listed) (by omega) h
        omega
    refine ⟨?_, ?_⟩
    · match hr : Region.ready .any ops listed with
      | [] => rfl
      | i :: _ =>
        exfalso
        have hi : i ∈ Region.ready .any ops listed := by rw [hr]; exact List.mem_cons_self
        obtain ⟨h1, o, ho, _⟩ := mem_ready.1 hi
        have hlt : i < ops.size := (Array.getElem?_eq_some_iff.1 ho).1
        rw [hdone i hlt] at h1
        cases h1
    · have hput : a' = puts a (fun k => a'.tmps.getD k undef) (dstsAll ops) := by
        refine act_eq ?_ (by rw [puts_defers, M.defers])
        apply Array.ext_getElem?
        intro k
        rw [puts_get]
        split
        · rename_i h
          have hk : k < a'.tmps.size := by rw [M.size]; exact h.2
          simp [hk]
        · rename_i h
          by_cases hk : k ∈ dstsAll ops
          · exact absurd ⟨hk, hfit k hk⟩ h
          · exact M.same k hk
      have h := last (fun k => a'.tmps.getD k undef) w' M.goes (fun d hd => by
        obtain ⟨j, hj, rfl⟩ := List.mem_map.1 hd
        have hj' := List.mem_range.1 hj
        refine M.known j hj' ?_
        have := hdone j hj'
        have hsz : j < listed.size := by omega
        simpa [hsz] using this)
      rwa [← hput] at h
  | succ fuel ih =>
    intro listed a' w' hs ht M
    refine ⟨fun he => absurd he (alive listed hs (by omega)), fun i hi => ?_⟩
    obtain ⟨h1, o, ho, hdeps⟩ := mem_ready.1 hi
    have hlt : i < ops.size := (Array.getElem?_eq_some_iff.1 ho).1
    have hset := todo_set (i := i) (listed := listed) (by omega) h1
    obtain ⟨hg, hon, hdst⟩ := form i o ho
    obtain ⟨d, hd⟩ : ∃ d, o.dst = some d := Option.isSome_iff_exists.1 hdst
    have hdi : dstOf ops i = d := by simp [dstOf, ho, hd]
    have hdm : d ∈ dstsAll ops := hdi ▸ dstAll_mem hlt
    have hr := step i o ho a'.eval w' M.goes (fun x hx => by
      cases x with
      | tmp t =>
        have hm : t ∉ dstsAll ops := fun hm => hx t hm rfl
        have := M.same t hm
        simp only [Act.eval, Array.getD_eq_getD_getElem?, this]
      | const c => rfl
      | global g => rfl
      | func f => rfl) (fun e he hbd => M.known e.on (by have := hon e he; omega) (hdeps e (by simpa using he) hbd))
    have fin : ∀ v w2, G w' w2 → D (dstOf ops i) v w2 → wpAnyIn (Fence.wide.inRound l) n P .any ops Q fuel (listed.setIfInBounds i true) (a'.put o.dst v) w2 := fun v w2 hb2 hD => by
      refine ih _ _ w2 (by simpa using hs) (by omega) ?_
      rw [hd]
      refine ⟨by simp [Act.put, M.size], by simp [Act.put, M.defers], fun k hk => ?_, hG.trans M.goes hb2, fun j hj hjl => ?_⟩
      · have hkd : d ≠ k := fun e => hk (e ▸ hdm)
        simp only [Act.put, Array.getElem?_setIfInBounds, if_neg hkd]
        exact M.same k hk
      · by_cases hji : j = i
        · subst hji
          rw [hdi] at hD ⊢
          have hds : d < a'.tmps.size := by rw [M.size]; exact hfit d hdm
          simpa [Act.put, hds] using hD
        · have hne : d ≠ dstOf ops j := fun e => hji (dstAll_inj hndp hj hlt (by rw [hdi, e]))
          have hold : listed.getD j false = true := by rwa [getD_set_ne false (Ne.symm hji)] at hjl
          have := stable _ _ _ _ (M.known j hj hold) hb2
          simpa [Act.put, Array.getElem?_setIfInBounds, hne] using this
    unfold wpOpIn
    simp only [ho]
    unfold OpGuard at hr
    have hnot := not_defer hnd ho
    cases hgd : o.guard with
    | none =>
      rw [hgd] at hr
      rw [if_pos (by simp [Region.wanted, hgd])]
      exact hr.wpIn hnot fun v w2 ⟨hb2, hD⟩ => fin v w2 hb2 hD
    | some jb =>
      obtain ⟨j, b⟩ := jb
      rw [hgd] at hr
      obtain ⟨c, hc, hy, hn⟩ := hr
      have hj : j < ops.size := by have := (hg j b hgd).1; omega
      have hyd : yielded ops a'.tmps j = some c := by
        have hoj : ops[j]? = some ops[j] := by simp [hj]
        obtain ⟨dj, hdj⟩ : ∃ dj, ops[j].dst = some dj := Option.isSome_iff_exists.1 (form j _ hoj).2.2
        have e1 : dstOf ops j = dj := by simp [dstOf, hoj, hdj]
        rw [e1] at hc
        have hcell : a'.tmps[dj]? = some (.bool c) := by
          simp only [Act.eval, Array.getD_eq_getD_getElem?] at hc
          cases ht : a'.tmps[dj]? with
          | none => rw [ht] at hc; simp [undef] at hc
          | some v => rw [ht] at hc; simp at hc; rw [hc]
        unfold yielded
        rw [hoj]
        simp [hdj, hcell]
      by_cases hcb : c = b
      · rw [if_pos (by simp [Region.wanted, hgd, hyd, hcb])]
        exact (hy hcb).wpIn hnot fun v w2 ⟨hb2, hD⟩ => fin v w2 hb2 hD
      · rw [if_neg (by simp [Region.wanted, hgd, hyd, hcb])]
        exact ⟨fun _ _ => trivial, fin undef w' (hn hcb).1 (hn hcb).2⟩

/-- THE LAW. -/
theorem wpIn_region_guard {l n : Nat} {P : Program} {id : Nat} {ops : Array Oper} {Q : Exit → Act → World → Prop} {G : World → World → Prop} (hG : Goes G) (dsts : List Nat) (T : Nat → Held G) {a : Act} {w : World} (hm : P.follows .mixedOrders = true)
    (hB : (guardAll ops && edgesBind ops && decide (dstsAll ops = dsts)) = true) (hnd : (ops.all fun o => match o.op with | .defer _ => false | _ => true) = true)
    (hfit : (dsts.all fun d => decide (d < a.tmps.size)) = true)
    (steps : StepsG P dsts T a w.drew ops.toList dsts)
    (last : ∀ f w1, G w.drew w1 → (∀ d ∈ dsts, (T d).p (f d) w1) → Q .normal (puts a f dsts) w1) : (Code.region id ops true).wpIn (Fence.wide.inRound l) n P Q a w := by
  simp only [Bool.and_eq_true, decide_eq_true_eq] at hB
  obtain ⟨⟨hB, hbind⟩, rfl⟩ := hB
  have hB' := hB
  simp only [guardAll, Bool.and_eq_true] at hB'
  have hform := hB'.1
  rw [List.all_eq_true] at hform
  refine wpIn_region_any hm (wpAnyIn_guard (D := fun d v w => (T d).p v w) hG (w := w.drew) hB hnd (fun d hd => by simpa using List.all_eq_true.1 hfit d hd) (fun d v w1 w2 h hb => (T d).st v w1 w2 h hb)
    (fun i o ho ev w1 hb hev hdeps => ?_) (fun f w1 hb h => last f w1 hb h) _ _ _ _ (by simp) (by simp [todo]) ⟨rfl, rfl, fun _ _ => rfl, hG.refl _, fun i hi h => ?_⟩)
  · have hlt : i < ops.size := (Array.getElem?_eq_some_iff.1 ho).1
    have h1 := stepsG_at steps i (o := o) (d := dstOf ops i) (by simpa using ho) (by simp [dstsAll, hlt])
    have hf := hform i (List.mem_range.2 hlt)
    rw [ho] at hf
    simp only [Bool.and_eq_true] at hf
    have hget : ∀ j, j < ops.size → (dstsAll ops).getD j 0 = dstOf ops j := fun j hj => by simp [dstsAll, List.getD, hj]
    have h2 := h1 ev w1 hb hev (depsG_of fun e he => ?_)
    · unfold OpGuard at h2 ⊢
      cases hgd : o.guard with
      | none => rw [hgd] at h2; exact h2
      | some jb =>
        obtain ⟨j, b⟩ := jb
        rw [hgd] at h2
        have hj : j < i := by
          have h3 := hf.1.1
          rw [hgd] at h3
          simp only [Bool.and_eq_true, decide_eq_true_eq] at h3
          exact h3.1
        simp only [hget j (by omega)] at h2
        exact h2
    · have hon : e.on < i := by simpa using Array.all_eq_true_iff_forall_mem.1 hf.1.2 e (by simpa using he)
      have hbd : Region.binds .any e = true := by
        have h2 := Array.all_eq_true_iff_forall_mem.1 hbind o (Array.mem_of_getElem? ho)
        exact Array.all_eq_true_iff_forall_mem.1 h2 e (by simpa using he)
      rw [hget e.on (by omega)]
      exact hdeps e he hbd
  · have h0 : (Array.replicate ops.size false).getD i false = false := by simp [show i < ops.size by omega]
    rw [h0] at h; cases h
end Go.Proofs.YtomnkgppldgpkaaDoor

namespace Go.Proofs.YtomnkgppldgpkaaDoor
open Go.RowKit Go.Shelf
attribute [local go_sem] Oper.semAt_some

set_option maxRecDepth 100000 in
set_option maxHeartbeats 1000000 in
theorem reach_far (A : Option Addr) (cap n : Nat) (at_ : Int) (w : World) (p : Nat → Addr) (hs : Sents2 w p) (ht : Tabs w) (h : 12 < n) (hm : n ≤ 9223372036854775807) :
    Calls Tryd.prog 4 #[.slice A n cap, .int .i64 at_] w fun e w' => e = .returned (.bool true) ∧ Below w.heap.size w w' := by
  obtain ⟨W1, hW1⟩ : ∃ W1, W1 = w.alloc (.cells #[.bool false] 4) := ⟨_, rfl⟩
  have z1 : W1.heap.size = w.heap.size + 1 := by rw [hW1]; simp
  have b1 : Below w.heap.size w W1 := hW1 ▸ balloc (Below.refl _ _) _
  have k1 : W1.cell? ⟨w.heap.size, 0, none⟩ = some (.bool false) := by rw [hW1, World.cell?_alloc_mark]; rfl
  have f1 : W1.frozen? ⟨w.heap.size, 0, none⟩ = false := by rw [hW1]; simp [go_sem]
  have HF := hide (rfirst_any W1 p (hs.below b1) (ht.below b1 (Nat.le_refl _)))
  have q2 : decide ((12 : Int) < (n : Int)) = true := by simp; omega
  have HW1 := hide hW1
  have HB1 := hide b1
  clear hs ht hW1 b1
  refine (callsIn_wide (n := 5)).1 ?_
  refine callsIn_of_wp_marks Tryd.func4 rfl trivial ?_ rfl
  simp only [Tryd.ntmps4, List.size_toArray, List.length_cons, List.length_nil, Nat.reduceAdd, Nat.reduceSub, Array.replicate_succ, Array.replicate_zero, List.push_toArray, List.append_toArray, List.nil_append, List.cons_append]
  refine wpIn_wide.2 ?_
  go_wp2_with fail
  rw [← HW1.out]
  clear HW1
  refine HF.out.mono ?_
  rintro e w2 ⟨rfl, hb2⟩
  have k2 := (hb2.cell (p := ⟨w.heap.size, 0, none⟩) (by show w.heap.size < _; omega)).trans k1
  have f2 := (hb2.frozen (p := ⟨w.heap.size, 0, none⟩) (by show w.heap.size < _; omega)).trans f1
  have HB2 := hide (HB1.out.trans (hb2.mono HB1.out.size))
  clear hb2 HF k1 f1
  go_wp2_with fail
  have hc5 := World.cell?_setCell_same _ _ (.bool true) k2
  exact ⟨.bool true, by simp [results, Tryd.f4, go_sem, hc5], rfl, HB2.out.setCell (p := ⟨w.heap.size, 0, none⟩) (Nat.le_refl _) _⟩
end Go.Proofs.YtomnkgppldgpkaaDoor

namespace Go.Proofs.YtomnkgppldgpkaaDoor
open Go.RowKit Go.Shelf
attribute [local go_sem] Oper.semAt_some

namespace Rw
theorem go_pos (zs : List Int) : ∀ (a : Int) (i ev : Nat), ∀ b ∈ go a i ev zs, 1 ≤ b.recs.length := by
  induction zs with
  | nil => intro a i ev b hb; simp [go] at hb
  | cons z zs ih =>
    intro a i ev b hb
    rcases List.mem_cons.1 hb with rfl | hb
    · have := many_bd z; simp [bt]; omega
    · exact ih _ _ _ b hb
theorem go_base (zs : List Int) : ∀ (a : Int) (i ev : Nat), ∀ b ∈ go a i ev zs, b.base ≤ a + 5 * zs.length := by
  induction zs with
  | nil => intro a i ev b hb; simp [go] at hb
  | cons z zs ih =>
    intro a i ev b hb
    have hm := many_bd z
    rw [List.length_cons]
    rcases List.mem_cons.1 hb with rfl | hb
    · show a ≤ _; omega
    · have := ih _ _ _ b hb; omega
end Rw
/-- What is known of the batches that are gone through. -/
structure Bt7 (bs : List Rc.Bat) : Prop where
  small : ∀ b ∈ bs, (0 ≤ b.base ∧ b.base ≤ 1000000000000000) ∧ (1 ≤ b.recs.length ∧ b.recs.length ≤ 5) ∧ ∀ r ∈ b.recs, r.k.length ≤ 64 ∧ r.v.length ≤ 512
  off : ∀ k, k < (Rc.flat bs).length → ((Rc.flat bs).getD k default).1 = 7 + (k : Int)

theorem act_out {F : Fence} {n : Nat} {P : Program} {c : Code} {Q : Exit → Act → World → Prop} {a : Act} {w : World} (h : ∀ a0, a0 = a → c.wpIn F n P Q a0 w) : c.wpIn F n P Q a w := h a rfl

theorem flat_small (bs : List Rc.Bat) (h : Bt7 bs) : ∀ q ∈ Rc.flat bs, q.2.k.length ≤ 64 ∧ q.2.v.length ≤ 512 := by
  intro q hq
  obtain ⟨b, hb, hq⟩ := List.mem_flatMap.1 hq
  obtain ⟨k, hk, rfl⟩ := List.mem_map.1 hq
  have hk' := List.mem_range.1 hk
  exact (h.small b hb).2.2 _ (by simp [List.getD, hk'])
/-- A round's record in its box, with what it leads to. -/
structure Yl.Box (FL : List (Int × Rc.Rec)) (lo : Nat) (pre : List Yl) (x : Yl) (Bx : Nat) (W : World) : Prop where
  at_ : Yl.At FL lo pre x W
  r : Res3 W Bx (.int .i64 (FL.getD x.k default).2.t) (.slice x.A (FL.getD x.k default).2.k.length x.ca) (.slice x.B (FL.getD x.k default).2.v.length x.cb)
theorem arg_kept {W W' : World} {row : Option Nat} {A : Option Addr} {c : Nat} {l : List UInt8} (h : Arg W A c l) (hg : W.grownBy W' row) (hr : ∀ r, row = some r → ∃ o : Obj, W.heap[r]? = some o ∧ o.isCells = false) : Arg W' A c l := by
  refine ⟨h.le, h.max, h.nil, ?_⟩
  rcases h.reads with e | ⟨b, off, e, hb, hc⟩
  · exact .inl e
  · exact .inr ⟨b, off, e, Nat.lt_of_lt_of_le hb hg.size, fun k hk => cell_kept (hc k hk) hg hr⟩
theorem free_kept {W W' : World} {row : Option Nat} {lo c : Nat} {A : Option Addr} {l : List UInt8} (h : Free W lo A l) (ha : Arg W A c l) (hg : W.grownBy W' row) (hr : ∀ r, row = some r → ∃ o : Obj, W.heap[r]? = some o ∧ o.isCells = false) : Free W' lo A l := by
  refine ⟨fun b off e => ⟨(h.1 b off e).1, Nat.lt_of_lt_of_le (h.1 b off e).2 hg.size⟩, fun hl b off e k => ?_⟩
  rcases ha.reads with e2 | ⟨b', off', e2, hb, hc⟩
  · exact absurd e2 hl
  · rw [e] at e2
    injection e2 with e2
    injection e2 with e2 e3
    subst e2
    have hp : 0 < l.length := List.length_pos_iff.2 hl
    have hne : some b ≠ row := by
      intro e4
      obtain ⟨o, h1, h2⟩ := hr b e4.symm
      obtain ⟨o2, h3, h4⟩ := cells_of_cell (hc 0 hp)
      rw [h1] at h3
      injection h3 with h3
      rw [h3, h4] at h2
      cases h2
    exact (World.frozen?_of_block (a := ⟨b, k, none⟩) (hg.block b hb hne)).trans (h.2 hl b off e k)
theorem Res3.kept {W W' : World} {row : Option Nat} {g : Nat} {a b c : Value} (h : Res3 W g a b c) (hg : W.grownBy W' row) (hr : ∀ r, row = some r → ∃ o : Obj, W.heap[r]? = some o ∧ o.isCells = false) : Res3 W' g a b c :=
  ⟨cell_kept h.c0 hg hr, cell_kept h.c1 hg hr, cell_kept h.c2 hg hr, fun j => by
    have hne : some g ≠ row := by
      intro e4
      obtain ⟨o, h1, h2⟩ := hr g e4.symm
      obtain ⟨o2, h3, h4⟩ := cells_of_cell h.c0
      rw [h1] at h3
      injection h3 with h3
      rw [h3, h4] at h2
      cases h2
    exact (World.frozen?_of_block (a := ⟨g, j, none⟩) (hg.block g (World.block_lt_of_cell? W _ h.c0) hne)).trans (h.f j)⟩
theorem Yl.Box.kept {FL : List (Int × Rc.Rec)} {lo : Nat} {pre : List Yl} {x : Yl} {Bx : Nat} {W W' : World} {row : Option Nat} (h : Yl.Box FL lo pre x Bx W) (hg : W.grownBy W' row) (hr : ∀ r, row = some r → ∃ o : Obj, W.heap[r]? = some o ∧ o.isCells = false) : Yl.Box FL lo pre x Bx W' :=
  ⟨⟨h.at_.k, arg_kept h.at_.key hg hr, arg_kept h.at_.val hg hr, free_kept h.at_.fk h.at_.key hg hr, free_kept h.at_.fv h.at_.val hg hr⟩, h.r.kept hg hr⟩

/-- Between two rounds: the count stands in its box; what is gone through is kept. -/
def EachI (Bi : Nat) (w6 wr : World) (pre : List Yl) (W : World) : Prop := Kpt Bi w6.heap.size w6 W ∧ W.cell? ⟨Bi, 0, none⟩ = some (.int .i64 (pre.length : Int)) ∧ W.frozen? ⟨Bi, 0, none⟩ = false ∧ Below wr.heap.size wr W
theorem keepsOthers_of_below {W W' : World} (h : Below W.heap.size W W') : KeepsOthers W W' := ⟨h.size, fun k o hk _ => (h.block k (Array.getElem?_eq_some_iff.1 hk).1).trans hk⟩
theorem EachI.left {Bi j : Nat} {w6 wr W w11 : World} {pre : List Yl} {x : Yl} {a : Act} (h : EachI Bi w6 wr pre W) (hj : pre.length = j) (hBi : wr.heap.size ≤ Bi) (ho : KeepsOthers W w11) (hk : Kpt Bi w6.heap.size W w11) (hc : w11.cell? ⟨Bi, 0, none⟩ = some (.int .i64 (j : Int)))
    (hf : w11.frozen? ⟨Bi, 0, none⟩ = false) (hb : Below wr.heap.size wr w11) : LeftBy (Kpt Bi w6.heap.size) (EachI Bi w6 wr) (fun _ _ _ => False) (pre ++ [x]) W Exit.normal a (w11.setCell ⟨Bi, 0, none⟩ (.int .i64 ((j : Int) + 1))) := by
  refine ⟨ho.trans (KeepsOthers.setCell _ _ _), hk.trans (Kpt.setBox _ _ _), h.1.trans (hk.trans (Kpt.setBox _ _ _)), ?_, by rw [World.frozen?_setCell]; exact hf, hb.setCell (p := ⟨Bi, 0, none⟩) hBi _⟩
  rw [World.cell?_setCell_same _ _ _ hc, List.length_append, hj]
  simp

theorem take_facts {w W : World} {b0 D : Nat} {x : Value} (hc : W.cell? ⟨b0, 0, none⟩ = some x) (hK : W.heap[D]? = some (.deferred (some []))) (hb : Below w.heap.size w W) (hw : w.heap.size ≤ D) :
    (W.putObj D (.deferred none)).cell? ⟨b0, 0, none⟩ = some x ∧ Below w.heap.size w (W.putObj D (.deferred none)) ∧ ∀ D', D' ≠ D → (W.putObj D (.deferred none)).heap[D']? = W.heap[D']? :=
  ⟨cell_kept hc (grownBy_putObj' W D (.deferred none)) (fun r e => by cases e; exact ⟨_, hK, rfl⟩), hb.grown (grownBy_putObj' W D (.deferred none)) hb.size (fun k e => by cases e; exact hw), fun D' h => World.putObj_heap_other h⟩
/-- Between two rounds of the second way: the count stands in its box. -/
def EachJ (Bj Bs sp : Nat) (w10 W : World) (pre : List Yl) (W' : World) : Prop := Kpt Bj w10.heap.size w10 W' ∧ W'.cell? ⟨Bj, 0, none⟩ = some (.int .i64 (pre.length : Int)) ∧ W'.frozen? ⟨Bj, 0, none⟩ = false ∧ W'.cell? ⟨Bs, 0, none⟩ = some (.int .i64 (sp : Int)) ∧ Below W.heap.size W W' ∧ pre.length ≤ sp
/-- .. and where it is left. -/
def EachX (Bj Bs sp : Nat) (W : World) (c : Code) (W' : World) : Prop := c = .exit 4 ∧ W'.cell? ⟨Bj, 0, none⟩ = some (.int .i64 (sp : Int)) ∧ W'.cell? ⟨Bs, 0, none⟩ = some (.int .i64 (sp : Int)) ∧ Below W.heap.size W W'
theorem pre_len (bs : List Rc.Bat) (k : Nat) (h : Bt7 bs) (hk : k ≤ 12) : ((bs.take k).flatMap (·.recs)).length ≤ 1000 := by
  have key : ∀ (l : List Rc.Bat), (∀ b ∈ l, b.recs.length ≤ 5) → (l.flatMap (·.recs)).length ≤ 5 * l.length := by
    intro l
    induction l with
    | nil => intro _; simp
    | cons b l ih => intro hb; rw [List.flatMap_cons, List.length_append, List.length_cons]; have := ih (fun b hb' => hb b (by simp [hb'])); have := hb b (by simp); omega
  have h1 := key (bs.take k) (fun b hb => (h.small b (List.mem_of_mem_take hb)).2.1.2)
  have h2 : (bs.take k).length ≤ k := by rw [List.length_take]; omega
  omega

set_option maxRecDepth 100000 in
set_option maxHeartbeats 800000 in
theorem each_law (A : Option Addr) (cap n : Nat) (at_ : Int) (zs : List Int) (w : World) (p : Nat → Addr) (hs : Sents2 w p) (ht : Tabs w) (hn : zs.length = n) (h12 : n ≤ 12) (hm : cap ≤ 9223372036854775807)
    (hA : Ints w A zs) (hz : ∀ k, k < zs.length → -9223372036854775808 ≤ zs.getD k 0 ∧ zs.getD k 0 ≤ 9223372036854775807) (hat : -9223372036854775808 ≤ at_ ∧ at_ ≤ 9223372036854775807) :
    Calls Tryd.prog 4 #[.slice A n cap, .int .i64 at_] w fun e w' => e = .returned (.bool true) ∧ Below w.heap.size w w' := by
  obtain ⟨W1, hW1⟩ : ∃ W1, W1 = w.alloc (.cells #[.bool false] 4) := ⟨_, rfl⟩
  have z1 : W1.heap.size = w.heap.size + 1 := by rw [hW1]; simp
  have b1 : Below w.heap.size w W1 := hW1 ▸ balloc (Below.refl _ _) _
  have k1 : W1.cell? ⟨w.heap.size, 0, none⟩ = some (.bool false) := by rw [hW1, World.cell?_alloc_mark]; rfl
  have f1 : W1.frozen? ⟨w.heap.size, 0, none⟩ = false := by rw [hW1]; simp [go_sem]
  have HF := hide (rfirst_any W1 p (hs.below b1) (ht.below b1 (Nat.le_refl _)))
  have HR := hide (fun W (hb : Below w.heap.size w W) => row_any 7 A cap n 2 zs W hn (by omega) (by omega) (by omega) (by omega) (hA.below hb (Nat.le_refl _)) hz)
  obtain ⟨bs, hbs⟩ : ∃ bs, bs = Rw.go ((7 : Nat) : Int) 0 2 zs := ⟨_, rfl⟩
  rw [← hbs] at HR
  have hbl : bs.length = n := by rw [hbs, Rw.go_len, hn]
  have hb7 : Bt7 bs := ⟨fun b hb => by
    rw [hbs] at hb
    obtain ⟨h1, h2, h3⟩ := Rw.go_ok zs 7 0 2 (by omega) (by omega) (by omega) b hb
    have h4 := h1.base0
    have h5 := Rw.go_pos zs 7 0 2 b hb
    exact ⟨⟨h4, by have := Rw.go_base zs 7 0 2 b hb; omega⟩, ⟨h5, h2⟩, h3⟩, fun k hk => by rw [hbs] at hk ⊢; exact Rw.flat_off zs 7 0 2 k hk⟩
  have HBL := hide hbl
  have HB7 := hide hb7
  have HW1 := hide hW1
  have HB1 := hide b1
  have HZ1 := hide z1
  clear hs ht hW1 b1 hA hz hbs hbl hb7 hn z1
  refine (callsIn_wide (n := 9)).1 ?_
  refine callsIn_of_wp_marks Tryd.func4 rfl trivial ?_ rfl
  simp only [Tryd.ntmps4, List.size_toArray, List.length_cons, List.length_nil, Nat.reduceAdd, Nat.reduceSub, Array.replicate_succ, Array.replicate_zero, List.push_toArray, List.append_toArray, List.nil_append, List.cons_append]
  gi_upto_region 1 with fail
  rw [← HW1.out]
  clear HW1
  gi_upto_region 6 with (first
    | (refine ⟨trivial, ?_⟩; gi_at_call 5; refine (callsIn_wide.2 HF.out).mono ?_; rintro e w2 ⟨rfl, hb2⟩; have k2 := (hb2.cell (p := ⟨w.heap.size, 0, none⟩) (by show w.heap.size < _; rw [HZ1.out]; omega)).trans k1; have f2 := (hb2.frozen (p := ⟨w.heap.size, 0, none⟩) (by show w.heap.size < _; rw [HZ1.out]; omega)).trans f1; have HB2 := hide (HB1.out.trans (hb2.mono HB1.out.size)); have HZ2 := hide (Nat.le_trans (Nat.le_of_eq HZ1.out.symm) hb2.size); clear hb2 k1 f1)
    | fail)
  gi_upto_region 7 with (first
    | (refine ⟨trivial, ?_⟩; gi_at_call 13; refine (callsIn_wide.2 (HR.out _ HB2.out)).mono ?_; rintro e w3 ⟨⟨Al, cl, rfl, hcl1, hcl2, hbt3⟩, hb3⟩)
    | fail)
  have k3 := (hb3.cell (p := ⟨w.heap.size, 0, none⟩) (by show w.heap.size < _; have := HZ2.out; omega)).trans k2
  have f3 := (hb3.frozen (p := ⟨w.heap.size, 0, none⟩) (by show w.heap.size < _; have := HZ2.out; omega)).trans f2
  have HB3 := hide (HB2.out.trans (hb3.mono HB2.out.size))
  have HZ3 := hide (Nat.le_trans HZ2.out hb3.size)
  have HT3 := hide hbt3
  obtain ⟨Bl, hBl⟩ : ∃ Bl, Bl = w3.heap.size := ⟨_, rfl⟩
  have HBl := hide hBl
  clear hb3 hbt3 k2 f2
  gi_upto_region 8 with fail
  rw [← hBl]
  obtain ⟨w4, hw4⟩ : ∃ w4, w4 = w3.alloc (.cells #[.slice none 0 0] 24) := ⟨_, rfl⟩
  rw [← hw4]
  have hc4 : w4.cell? ⟨Bl, 0, none⟩ = some (.slice none 0 0) := by rw [hw4, hBl, World.cell?_alloc_mark]; rfl
  have hf4 : w4.frozen? ⟨Bl, 0, none⟩ = false := by rw [hw4, hBl]; simp [go_sem]
  have HS4 : Hid (w4.heap.size = Bl + 1) := hide (by rw [hw4, hBl]; simp)
  have HB4 : Hid (Below Bl w3 w4) := hide (by rw [hw4, hBl]; exact balloc (Below.refl _ _) _)
  clear hw4 hBl
  gi_wp2_with fail
  gi_loopw [8] (fun i wr => ∃ (k : Nat) (v : Value) (qs : List PRec), k ≤ n ∧ i = .int .i64 k ∧ wr.cell? ⟨Bl, 0, none⟩ = some v ∧ wr.frozen? ⟨Bl, 0, none⟩ = false ∧ Got w3 wr (Bl + 1) v qs ∧ qs.map (·.r) = (bs.take k).flatMap (·.recs) ∧ Below Bl w3 wr ∧ Bl < wr.heap.size) (fun i _ => n - (intOf i).toNat)
  case atStart => exact ⟨0, _, [], Nat.zero_le _, rfl, hc4, hf4, ⟨World.ownsRow_nil _ _ _ _, fun q hq => by simp at hq⟩, by simp, HB4.out, by rw [HS4.out]; omega⟩
  case round =>
    obtain ⟨k, v, qs, hk, rfl, hcv, hfv, hgot, hqs, hbw, hlw⟩ := hrel
    have HG := hide hgot
    have HQS := hide hqs
    have HBW := hide hbw
    have HLW := hide hlw
    obtain ⟨Av, cv, rfl⟩ := hgot.slice
    clear hgot hqs hbw hlw hc4 hf4
    by_cases hlt : k < n
    · have hkb : k < bs.length := by rw [HBL.out]; exact hlt
      rcases HT3.out with e0 | ⟨b, off, rfl, hb0, hcl⟩
      · rw [e0] at hkb; simp at hkb
      obtain ⟨Ar, cr, -, -, c2', hbat⟩ := (hcl k hkb).ex
      have c2 := (HBW.out.cell (p := ⟨b, off + k * 3 + 2, none⟩) (by show b < _; rw [HBl.out]; exact hb0)).trans c2'
      have hmem : bs[k] ∈ bs := List.getElem_mem hkb
      have hsm := (HB7.out.small _ hmem)
      have HFS := hide (flat_succ' bs k hkb)
      have HBA := hide hbat
      have e1 : bs.getD k default = bs[k] := by simp [List.getD, hkb]
      rw [e1] at HFS
      clear hcl c2' hbat e1 hmem
      generalize bs[k] = bt at *
      gi_upto_region 11 with fail
      refine wpIn_wide.2 ?_
      go_still_tail 6, (by kernel_rfl)
      change wpList _ _ _ _ _ wr.drew
      have HGD : Hid (Got w3 wr.drew (Bl + 1) (.slice Av qs.length cv) qs) := hide ⟨HG.out.own, HG.out.txt⟩
      have HBD : Hid (Below w3.heap.size w3 wr.drew) := hide (by have := HBW.out.drew; rw [HBl.out] at this; exact this)
      have hcd : wr.drew.cell? ⟨Bl, 0, none⟩ = some (.slice Av qs.length cv) := hcv
      have hfd : wr.drew.frozen? ⟨Bl, 0, none⟩ = false := hfv
      have HLD : Hid (Bl < wr.drew.heap.size) := hide HLW.out
      clear hcv hfv c2
      generalize wr.drew = wq at *
      have hql : qs.length ≤ 1000 := by
        have := congrArg List.length HQS.out
        rw [List.length_map] at this
        rw [this]
        exact pre_len bs k HB7.out (by omega)
      refine wpList_plain rfl fun K hK => step_recs (.tmp 33) (.tmp 38) rfl w3 (Bl + 1) (.slice Av qs.length cv) qs rfl HGD.out Ar bt.recs bt.recs.length cr rfl rfl (by omega) HBA.out.recs HBD.out (by omega) (by have := HLD.out; omega) fun v' w' qs' hgot' hqs' hg => hK _ _ ?_
      have hnb : some Bl ≠ (Value.slice Av qs.length cv).ownBlock := fun e => by have := (HGD.out.own.lt Bl e.symm).1; omega
      have hc' := hg.cell hcd hnb
      have hf' : w'.frozen? ⟨Bl, 0, none⟩ = false := (World.frozen?_of_block (hg.block Bl HLD.out hnb)).trans hfd
      have HG' := hide hgot'
      obtain ⟨Av', cv', rfl⟩ := hgot'.slice
      have HQ' : Hid ((qs ++ qs').map (·.r) = (bs.take (k + 1)).flatMap (·.recs)) := hide (by rw [List.map_append, HQS.out, hqs', HFS.out])
      have HB' : Hid (Below Bl w3 w') := hide ((show Below Bl w3 wq by have := HBD.out; rw [← HBl.out] at this; exact this).grown hg (by have := HLD.out; omega) (fun q hq => by have := (HGD.out.own.lt q hq).1; omega))
      have HL' : Hid (Bl < w'.heap.size) := hide (Nat.lt_of_lt_of_le HLD.out hg.size)
      clear hgot' hqs' hg hnb hql hcd hfd
      go_wp2_with fail
      have hnb' : (Value.slice Av' (qs ++ qs').length cv').ownBlock ≠ some Bl := fun e => by have := (HG'.out.own.lt Bl e).1; omega
      rw [List.length_append] at hnb'
      have HG2 : Hid (Got w3 (w'.setCell ⟨Bl, 0, none⟩ (.slice Av' (qs.length + qs'.length) cv')) (Bl + 1) (.slice Av' (qs.length + qs'.length) cv') (qs ++ qs')) := hide ⟨by have h1 := HG'.out.own; rw [List.length_append] at h1 ⊢; exact ownsRow_setCell_other h1 hnb' _, HG'.out.txt⟩
      have HC2 := hide (World.cell?_setCell_same w' ⟨Bl, 0, none⟩ (.slice Av' (qs.length + qs'.length) cv') hc')
      have HB2' := hide (HB'.out.setCell (p := ⟨Bl, 0, none⟩) (Nat.le_refl _) (.slice Av' (qs.length + qs'.length) cv'))
      have HL2 : Hid (Bl < (w'.setCell ⟨Bl, 0, none⟩ (.slice Av' (qs.length + qs'.length) cv')).heap.size) := hide (by rw [World.size_setCell]; exact HL'.out)
      have HF2 : Hid ((w'.setCell ⟨Bl, 0, none⟩ (.slice Av' (qs.length + qs'.length) cv')).frozen? ⟨Bl, 0, none⟩ = false) := hide (by rw [World.frozen?_setCell]; exact hf')
      clear hnb' hc' hf'
      gi_wp2_with fail
      go_roundw
      case rel => exact ⟨k + 1, _, _, by omega, by go_num, HC2.out, HF2.out, HG2.out, HQ'.out, HB2'.out, HL2.out⟩
      case measure => simp [intOf]; omega
    · obtain rfl : k = n := by omega
      have HQE : Hid (qs.map (·.r) = bs.flatMap (·.recs)) := hide (by have := HQS.out; rw [← HBL.out, List.take_length] at this; exact this)
      clear HQS
      gi_upto_region 13 with fail
      obtain ⟨Aw, cw, hvw, hqc, hqm, hrw⟩ := HG.out.recs (by rw [HBl.out]; omega) (by have := HBW.out; rw [HBl.out] at this; exact this)
      have hvw' : Av = Aw ∧ cv = cw := by injection hvw with h1 _ h3; exact ⟨h1, h3⟩
      obtain ⟨rfl, rfl⟩ := hvw'
      rw [HQE.out] at hrw
      have hql : qs.length = (Rc.flat bs).length := by
        have := congrArg List.length HQE.out
        rw [List.length_map, Rc.flat_len] at this
        exact this
      rw [hql] at hcv
      have hml : (Rc.flat bs).length ≤ 1000 := by
        have := pre_len bs k HB7.out (by omega)
        rw [← HBL.out, List.take_length, Rc.flat_len] at this
        exact this
      have HRW := hide hrw
      have HCV := hide hcv
      have HT4 := hide (HT3.out.below (show Below w3.heap.size w3 wr by have := HBW.out; rw [HBl.out] at this; exact this) (Nat.le_refl _))
      have k4 := (HBW.out.cell (p := ⟨w.heap.size, 0, none⟩) (by show w.heap.size < _; have := HZ3.out; rw [HBl.out]; omega)).trans k3
      have f4 := (HBW.out.frozen (p := ⟨w.heap.size, 0, none⟩) (by show w.heap.size < _; have := HZ3.out; rw [HBl.out]; omega)).trans f3
      have HB5 : Hid (Below w.heap.size w wr) := hide (HB3.out.trans (HBW.out.mono (by have := HB3.out.size; have := HBl.out; omega)))
      have HZ5 : Hid (w.heap.size + 1 ≤ Bl ∧ Bl < wr.heap.size) := hide ⟨by have := HZ3.out; have := HBl.out; omega, HLW.out⟩
      have HB0C := hide k4
      have HB0F := hide f4
      clear hvw hrw hcv hfv hql k3 f3 hqc hqm HG HQE HT3 HB3 HBW HLW HB2 HB4 HS4 HZ2 HZ3 HF HBl HB1 HZ1
      obtain ⟨Bi, hBi⟩ : ∃ Bi, Bi = wr.heap.size := ⟨_, rfl⟩
      obtain ⟨w5, hw5⟩ : ∃ w5, w5 = wr.alloc (.cells #[.int .i64 0] 3) := ⟨_, rfl⟩
      rw [← hBi, ← hw5]
      have z5 : w5.heap.size = Bi + 1 := by rw [hw5, hBi]; simp
      have b5 : Below wr.heap.size wr w5 := by rw [hw5]; exact balloc (Below.refl _ _) _
      have hci : w5.cell? ⟨Bi, 0, none⟩ = some (.int .i64 0) := by rw [hw5, hBi, World.cell?_alloc_mark]; rfl
      have hfi : w5.frozen? ⟨Bi, 0, none⟩ = false := by rw [hw5, hBi]; simp [go_sem]
      have hsm : ∀ b ∈ bs, b.recs.length ≤ 1000 ∧ ∀ r ∈ b.recs, r.k.length ≤ 1000000 ∧ r.v.length ≤ 1000000 := fun b hb => by
        obtain ⟨_, ⟨_, h2⟩, h3⟩ := HB7.out.small b hb
        exact ⟨by omega, fun r hr => by have := h3 r hr; omega⟩
      have HE := hide (fun W (hb : Below wr.heap.size wr W) => each_any bs Al cl k W HBL.out (by omega) (HT4.out.below hb (Nat.le_refl _)) hsm)
      have HB55 := hide b5
      have HZ55 := hide z5
      have HBi := hide hBi
      have HCI := hide hci
      have HFI := hide hfi
      clear hw5 hBi z5 b5 hci hfi hsm
      gi_upto_region 14 with (first
        | (refine ⟨trivial, ?_⟩; gi_at_call 14; refine (callsIn_wide.2 (HE.out _ HB55.out)).mono ?_; rintro e w6 ⟨rfl, hcn6, hsz6, hfar6, hb6⟩)
        | fail)
      have hB6 : w5.heap.size ≤ w6.heap.size := hb6.size
      have HFAR := hide hfar6
      have HB6 : Hid (Below wr.heap.size wr w6) := hide (HB55.out.trans (hb6.mono HB55.out.size))
      have hci6 := (hb6.cell (p := ⟨Bi, 0, none⟩) (by show Bi < _; rw [HZ55.out]; omega)).trans HCI.out
      have hfi6 := (hb6.frozen (p := ⟨Bi, 0, none⟩) (by show Bi < _; rw [HZ55.out]; omega)).trans HFI.out
      have hsq := each_seq bs 8 w5.heap.size (w5.heap.size + 1) Bi w5.heap.size k (by omega) HBL.out (by omega) (fun b hb => by
        obtain ⟨h1, ⟨_, h2⟩, h3⟩ := HB7.out.small b hb
        exact ⟨h1, by omega, fun r hr => by have := h3 r hr; omega⟩) (by rw [HZ55.out]; omega) (by rw [HZ55.out]; omega) w6 HFAR.out hcn6
      have HSZ6 : Hid (Bi < w6.heap.size) := hide (by rw [HZ55.out] at hB6; omega)
      clear hfar6 hb6 hcn6 hsz6 hB6 HB55 HCI HFI
      refine act_out fun a0 ha0 => ?_
      refine range_with rfl (by omega) (gf := 32) (lb := #[.pointer (some ⟨w5.heap.size + 1, 0, none⟩)]) (by rw [ha0]; rfl) trivial (enters_of Tryd.func32 (by kernel_rfl) rfl) hsq (fun h1 h2 => h1.trans h2) (fun W l o o' _ h1 h2 => Kpt.putObj W l o o' h1 h2) (Below.refl _ _) (fun _ => rfl)
        (EachI Bi w6 wr)
        (fun _ _ _ => False)
        (fun s A B row hs hg hr => ⟨hs.1.trans (Kpt.grown hg fun r e => (hr r e).2), cell_kept hs.2.1 hg fun r e => (hr r e).2, (frozen_kept hs.2.1 hg fun r e => (hr r e).2).trans hs.2.2.1, ownFrom_below (Nat.le_refl _) (B := w6.heap.size) (by have := HB6.out.size; omega) () A B row hs.2.2.2 hg hr⟩)
        (fun _ _ _ _ _ hs _ _ => hs)
        ⟨Kpt.refl _ _ _, hci6, hfi6, HB6.out⟩
        (fun pre x a' W => ∃ Bx, w6.heap.size ≤ Bx ∧ a' = { tmps := (((a0.tmps.setIfInBounds 42 ((Yl.vals (Rc.flat bs) x)[0]?.getD undef)).setIfInBounds 43 ((Yl.vals (Rc.flat bs) x)[1]?.getD undef)).setIfInBounds 10 ((Yl.vals (Rc.flat bs) x)[0]?.getD undef)).setIfInBounds 11 (.pointer (some ⟨Bx, 0, none⟩)), defers := [] } ∧ Yl.Box (Rc.flat bs) w6.heap.size pre x Bx W)
        (fun pre x a' s A B row hs hg hr => by obtain ⟨Bx, h1, h2, h3⟩ := hs; exact ⟨Bx, h1, h2, h3.kept hg fun r e => (hr r e).2⟩) ?assign ?body ?done ?stop
      case assign =>
        intro l pre x W K hI hG hK
        obtain ⟨fx, hfx⟩ : ∃ fx, fx = (Rc.flat bs).getD x.k default := ⟨_, rfl⟩
        have HX := hide hfx
        rw [ha0]
        unfold Yl.vals
        rw [← hfx]
        clear hfx
        gi_wp2
        have hbb : Below W.heap.size W (W.alloc (.cells #[.int .i64 fx.2.t, .slice x.A fx.2.k.length x.ca, .slice x.B fx.2.v.length x.cb] 48)) := balloc (Below.refl _ _) _
        refine hK _ _ ⟨W.heap.size, hI.1.size, ?_, ⟨⟨hG.k, hG.key.below hbb (Nat.le_refl _), hG.val.below hbb (Nat.le_refl _), hG.fk.below hbb (Nat.le_refl _), hG.fv.below hbb (Nat.le_refl _)⟩, by rw [← HX.out]; exact Res3.new _ _ _ _ _⟩⟩ ⟨hI.1.trans (Kpt.of_below hbb (Nat.le_refl _)), (hbb.cell (p := ⟨Bi, 0, none⟩) (by have := World.block_lt_of_cell? W _ hI.2.1; exact this)).trans hI.2.1, (hbb.frozen (p := ⟨Bi, 0, none⟩) (by have := World.block_lt_of_cell? W _ hI.2.1; exact this)).trans hI.2.2.1, hI.2.2.2.trans (hbb.mono hI.2.2.2.size)⟩ (KeepsOthers.alloc _ _) (Kpt.of_below hbb (Nat.le_refl _))
        rw [ha0]
        unfold Yl.vals
        rw [← HX.out]
        rfl
      case body =>
        rintro l pre x a' W hI ⟨Bx, hBx, rfl, hbox⟩ hlt
        have HI := hide hI
        obtain ⟨hkp, hcw, hfw, hbw⟩ := hI
        obtain ⟨fx, hfx⟩ : ∃ fx, fx = (Rc.flat bs).getD x.k default := ⟨_, rfl⟩
        have hxk := hbox.at_.k
        have ho := HB7.out.off x.k (by rw [hxk]; exact hlt)
        have hr := Rc.flat_rec bs x.k (by rw [hxk]; exact hlt)
        have hmem : (Rc.flat bs).getD x.k default ∈ Rc.flat bs := by rw [show (Rc.flat bs).getD x.k default = (Rc.flat bs)[x.k]'(by rw [hxk]; exact hlt) from by simp [List.getD, show x.k < (Rc.flat bs).length by rw [hxk]; exact hlt]]; exact List.getElem_mem _
        have hs2 := flat_small bs HB7.out _ hmem
        obtain ⟨ak, av, fk, _⟩ := (⟨hbox.at_.key, hbox.at_.val, hbox.at_.fk, hbox.at_.fv⟩ : _ ∧ _ ∧ _ ∧ _)
        have hr3 := hbox.r
        rw [← hfx] at ho hr hs2 ak av fk hr3
        rw [ha0]
        unfold Yl.vals
        rw [← hfx]
        have HX := hide hfx
        have hbw' := hbw
        rcases HRW.out.below hbw (Nat.le_refl _) with e0 | ⟨b, off, rfl, hbl, hrc⟩
        · have := Rc.flat_len bs; rw [e0] at this; simp at this; omega
        have hj : x.k < (bs.flatMap (·.recs)).length := by rw [Rc.flat_len, hxk]; exact hlt
        obtain ⟨Ak, ck, Av2, cv2, e0, e1, e2, ha, hv⟩ := (hrc x.k hj).ex
        rw [← hr] at e0 e1 e2 ha hv
        have c0 := hr3.c0
        have c1 := hr3.c1
        have c2 := hr3.c2
        have hcBl := (hbw.cell (p := ⟨Bl, 0, none⟩) HZ5.out.2).trans HCV.out
        have HFK := hide fk
        have HAK := hide ak
        have HAV := hide av
        have HR3 := hide hr3
        have HHA := hide ha
        have HHV := hide hv
        have HKP := hide hkp
        have HBW := hide hbw
        have HXK := hide hxk
        have hm1 : (Rc.flat bs).length ≤ 1000 := hml
        clear hfx hbox hr hmem hbw' hrc hj hkp hbw fk ak av hr3 ha hv
        obtain ⟨xk, A1, ca, B1, cb⟩ := x
        obtain ⟨o, t, kk, vv⟩ := fx
        simp only at *
        obtain rfl := hxk
        obtain rfl := ho
        generalize hM : (Rc.flat bs).length = M at *
        generalize hJ : pre.length = j at *
        have HM := hide hM
        have HJ := hide hJ
        clear hM hJ
        have g1 : decide ((M : Int) ≤ (j : Int)) = false := by simp; omega
        have g2 : IntKind.i64.wrap (7 + (j : Int)) = 7 + (j : Int) := IntWalk.i64_in _ (by omega)
        have g3 : ((7 + (j : Int)) != (7 + (j : Int))) = false := by simp
        have HSR := hide (fun W' (hb : Below W.heap.size W W') => sameRecord_eq t kk vv A1 B1 Ak Av2 ca cb ck cv2 kk.length vv.length W' rfl rfl (by have := hs2.1; omega) (by have := hs2.2; omega) (HAK.out.below hb (Nat.le_refl _)).reads (HAV.out.below hb (Nat.le_refl _)).reads (HHA.out.below hb (Nat.le_refl _)).reads (HHV.out.below hb (Nat.le_refl _)).reads)
        have hl1 : Bl < W.heap.size := World.block_lt_of_cell? W _ hcBl
        have hl2 : Bi < W.heap.size := World.block_lt_of_cell? W _ hcw
        have hl3 : Bx < W.heap.size := World.block_lt_of_cell? W _ c0
        have hwd : W.drew.heap.size = W.heap.size := rfl
        simp only [List.setIfInBounds_toArray, List.set_cons_succ, List.set_cons_zero, List.getElem?_toArray, List.getElem?_cons_zero, List.getElem?_cons_succ, Option.getD_some]
        gi_upto_region 16 with fail
        refine wpIn_region_guard (G := Below W.heap.size) ⟨fun w => Below.refl _ w, fun h k => h.trans k⟩ [44, 45, 46, 47, 48, 49, 50, 51, 52, 53, 54, 55, 56, 57, 58, 59, 60, 61, 62] (fun d => match d with
          | 44 => .is (.int .i64 j) | 45 => .is (.slice (some ⟨b, off, none⟩) M cv) | 46 => .is (.int .i64 M) | 47 => .is (.bool false) | 48 => .is (.bool false) | 49 => .is (.int .i64 (7 + (j : Int))) | 50 => .is (.int .i64 j) | 51 => .is (.int .i64 (7 + (j : Int))) | 52 => .is (.bool false) | 53 => .is (.bool false) | 54 => .is (.bool false)
          | 55 => .is (recV t A1 kk.length ca B1 vv.length cb) | 56 => .is (.slice (some ⟨b, off, none⟩) M cv) | 57 => .is (.int .i64 j) | 58 => .is (.pointer (some ⟨b, off + j * 3, none⟩)) | 59 => .is (recV t Ak kk.length ck Av2 vv.length cv2) | 60 => .is (.bool true) | 61 => .is (.bool false) | 62 => .is (.bool false)
          | _ => .any) (by kernel_rfl) (by kernel_rfl) (by kernel_rfl) ?fit ?_ ?_
        case fit => kernel_rfl
        · simp only [List.size_toArray, List.length_cons, List.length_nil, List.take_succ_cons, List.take_zero, StepsG]
          refine ⟨?_, ?_, ?_, ?_, ?_, ?_, ?_, ?_, ?_, ?_, ?_, ?_, ?_, ?_, ?_, ?_, ?_, ?_, ?_, trivial⟩
          all_goals
            intro ev w1' hb hev hd
            have ev7 : ev (.tmp 7) = .pointer (some ⟨Bl, 0, none⟩) := hev _ (by simp)
            have ev9 : ev (.tmp 9) = .pointer (some ⟨Bi, 0, none⟩) := hev _ (by simp)
            have ev10 : ev (.tmp 10) = .int .i64 (7 + (j : Int)) := hev _ (by simp)
            have ev11 : ev (.tmp 11) = .pointer (some ⟨Bx, 0, none⟩) := hev _ (by simp)
            have evf : ∀ f, ev (.func f) = .func (.func f) #[] #[] := fun f => hev _ (by simp)
            have evc : ∀ c, ev (.const c) = c := fun c => hev _ (by simp)
            have y7 := (hb.cell (p := ⟨Bl, 0, none⟩) hl1).trans hcBl
            have y9 := (hb.cell (p := ⟨Bi, 0, none⟩) hl2).trans hcw
            have x0 := (hb.cell (p := ⟨Bx, 0, none⟩) hl3).trans c0
            have x1 := (hb.cell (p := ⟨Bx, 1, none⟩) hl3).trans c1
            have x2 := (hb.cell (p := ⟨Bx, 2, none⟩) hl3).trans c2
            have r0 := (hb.cell (p := ⟨b, off + j * 3, none⟩) hbl).trans e0
            have r1 := (hb.cell (p := ⟨b, off + j * 3 + 1, none⟩) hbl).trans e1
            have r2 := (hb.cell (p := ⟨b, off + j * 3 + 2, none⟩) hbl).trans e2
            have HBW2 := hide hb
            clear hev hb e0 e1 e2 c0 c1 c2 hcBl hcw HX HAK HAV HR3 HHA HHV HKP HBW HM HJ HB7 hs2 ha0 HRW HCV HT4 hsq HFAR
            simp [DepsG, Held.is] at hd
            try (set_option maxHeartbeats 40000 in simp [OpGuard, OpRuns, execOp, go_sem, Held.is, Below.refl, *])
          exact (HSR.out _ ((Below.refl W.heap.size W).drew.trans HBW2.out)).mono fun e w'' ⟨he, hb8⟩ => ⟨he, hb8.mono HBW2.out.size⟩
        · intro f w10 hb hf
          have e62 : f 62 = .bool false := hf 62 (by simp)
          have hb10 : Below W.heap.size W w10 := (Below.refl W.heap.size W).drew.trans hb
          clear hb hf HSR hcBl e0 e1 e2 g1 g2 g3
          simp only [puts, Act.put, List.setIfInBounds_toArray, List.set_cons_succ, List.set_cons_zero]
          rw [e62]
          clear e62
          generalize f 44 = y44
          generalize f 45 = y45
          generalize f 46 = y46
          generalize f 47 = y47
          generalize f 48 = y48
          generalize f 49 = y49
          generalize f 50 = y50
          generalize f 51 = y51
          generalize f 52 = y52
          generalize f 53 = y53
          generalize f 54 = y54
          generalize f 55 = y55
          generalize f 56 = y56
          generalize f 57 = y57
          generalize f 58 = y58
          generalize f 59 = y59
          generalize f 60 = y60
          generalize f 61 = y61
          clear f
          have hcw10 := (hb10.cell (p := ⟨Bi, 0, none⟩) hl2).trans hcw
          have hfw10 := (hb10.frozen (p := ⟨Bi, 0, none⟩) hl2).trans hfw
          have hx10 := (hb10.cell (p := ⟨Bx, 1, none⟩) hl3).trans c1
          have HB10 := hide hb10
          have HAK10 := hide (HAK.out.below hb10 (Nat.le_refl _))
          have HFK10 := hide (HFK.out.below hb10 (Nat.le_refl _))
          have HKO : Hid (KeepsOthers W w10) := hide (keepsOthers_of_below hb10)
          have HKP10 : Hid (Kpt Bi w6.heap.size W w10) := hide (Kpt.of_below hb10 (Nat.le_refl _))
          have hi1 : IntKind.i64.wrap ((j : Int) + 1) = ((j + 1 : Nat) : Int) := by rw [IntWalk.i64_in _ (by omega)]; omega
          clear hb10 c0 c1 c2 hcw hfw hwd
          have HBW10 := hide (HBW.out.trans (HB10.out.mono HBW.out.size))
          by_cases hkk : kk = []
          · have h0 : decide (0 < (kk.length : Int)) = false := by rw [hkk]; rfl
            gi_wp2_with fail
            exact EachI.left HI.out HJ.out (by rw [HBi.out]; exact Nat.le_refl _) HKO.out HKP10.out hcw10 hfw10 HBW10.out
          · have hpos : 0 < kk.length := List.length_pos_iff.2 hkk
            rcases HAK10.out.reads with e | ⟨ab, ao, rfl, hab, hac⟩
            · exact absurd e hkk
            have hba := (HFK10.out.1 ab ao rfl).1
            have hfa := HFK10.out.2 hkk ab ao rfl ao
            have hca := hac 0 hpos
            rw [Nat.add_zero] at hca
            have h0 : decide (0 < (kk.length : Int)) = true := by simp; omega
            have HCA := hide hca
            have hne : (⟨ab, ao, none⟩ : Addr) ≠ ⟨Bi, 0, none⟩ := by intro e; injection e with e _; have := HSZ6.out; omega
            have HC11 : Hid ((w10.setCell ⟨ab, ao, none⟩ (.int .u8 90)).cell? ⟨Bi, 0, none⟩ = some (.int .i64 (j : Int))) := hide ((World.cell?_setCell_other _ _ _ _ hne).trans hcw10)
            have hc11 := HC11.out
            clear hac
            gi_wp2_with fail
            refine EachI.left HI.out HJ.out (by rw [HBi.out]; exact Nat.le_refl _) (HKO.out.trans (KeepsOthers.setCell _ _ _)) (HKP10.out.trans (Kpt.setByte _ _ _ _ _ hba HCA.out)) HC11.out (by rw [World.frozen?_setCell]; exact hfw10) (HBW10.out.setCell (p := ⟨ab, ao, none⟩) (by show _ ≤ ab; have := HB6.out.size; omega) _)
      case stop => rintro D c pre W _ _ h _; exact h.elim
      case done =>
        rintro D xs W hD ⟨_, hlen⟩ ⟨_, hcw, hfw, hbw⟩ hK
        rw [hlen] at hcw
        have hcBl := (hbw.cell (p := ⟨Bl, 0, none⟩) HZ5.out.2).trans HCV.out
        have k5 := (hbw.cell (p := ⟨w.heap.size, 0, none⟩) (by show w.heap.size < _; have := HZ5.out; omega)).trans k4
        have f5 := (hbw.frozen (p := ⟨w.heap.size, 0, none⟩) (by show w.heap.size < _; have := HZ5.out; omega)).trans f4
        have HBW := hide hbw
        have HK := hide hK
        have HD := hide hD
        rw [ha0]
        generalize hM : (Rc.flat bs).length = M at *
        have HM := hide hM
        clear hM hlen hbw hsq HFAR ha0 k4 f4 HRW
        have u1 : ((M : Int) != (M : Int)) = false := by simp
        by_cases hM0 : M = 0
        · have u2 : ((M : Int) == 0) = true := by simp [hM0]
          gi_wp2_with fail
          have hc6 := World.cell?_setCell_same W ⟨w.heap.size, 0, none⟩ (.bool true) k5
          have hD6 := (KeepsOthers.setCell W ⟨w.heap.size, 0, none⟩ (.bool true)).same D _ HK.out rfl
          have hwD : w.heap.size ≤ D := by have := HD.out; have := HB6.out.size; have := HB5.out.size; omega
          obtain ⟨hc7, hb7, _⟩ := take_facts hc6 hD6 ((HB5.out.trans (HBW.out.mono HB5.out.size)).setCell (p := ⟨w.heap.size, 0, none⟩) (Nat.le_refl _) _) hwD
          refine ⟨by simp, .inl ⟨D, _, rfl, run_takeDeferred hD6, ?_⟩⟩
          exact ⟨.bool true, by simp [results, Tryd.f4, go_sem, hc7], rfl, hb7⟩
        · have u2 : ((M : Int) == 0) = false := by simp [hM0]
          have HNM := hide (fun W => num_at at_ M M W rfl (by omega) (by omega) hat.1 hat.2)
          have hsp := num_lt at_ M (by omega)
          have HSP := hide hsp
          generalize num at_ M = sp at *
          clear hsp
          gi_upto_region 25 with fail
          gi_upto_region 26 with (first
            | (refine ⟨trivial, ?_⟩; gi_at_call 16; refine (callsIn_wide.2 (HNM.out _)).mono ?_; rintro e w8 ⟨rfl, rfl⟩)
            | fail)
          obtain ⟨Bs, hBs⟩ : ∃ Bs, Bs = W.heap.size := ⟨_, rfl⟩
          gi_upto_region 27 with fail
          rw [← hBs]
          obtain ⟨w8, hw8⟩ : ∃ w8, w8 = W.alloc (.cells #[.int .i64 (sp : Int)] 3) := ⟨_, rfl⟩
          obtain ⟨w9, hw9⟩ : ∃ w9, w9 = w8.alloc (.cells #[.int .i64 0] 3) := ⟨_, rfl⟩
          have z8 : w8.heap.size = Bs + 1 := by rw [hw8, hBs]; simp
          have z9 : w9.heap.size = Bs + 2 := by rw [hw9]; simp [z8]
          rw [← hw8, ← hw9]
          have b8 : Below W.heap.size W w8 := by rw [hw8]; exact balloc (Below.refl _ _) _
          have b9 : Below w8.heap.size w8 w9 := by rw [hw9]; exact balloc (Below.refl _ _) _
          have b89 := b8.trans (b9.mono (by omega))
          have hcs9 : w9.cell? ⟨Bs, 0, none⟩ = some (.int .i64 (sp : Int)) := by rw [b9.cell (p := ⟨Bs, 0, none⟩) (by show Bs < _; omega), hw8, hBs, World.cell?_alloc_mark]; rfl
          have hcj9 : w9.cell? ⟨Bs + 1, 0, none⟩ = some (.int .i64 0) := by rw [hw9, ← z8, World.cell?_alloc_mark]; rfl
          have hfj9 : w9.frozen? ⟨Bs + 1, 0, none⟩ = false := by rw [hw9, ← z8]; simp [go_sem]
          have HB89 := hide b89
          have HZ9 := hide z9
          have HBs := hide hBs
          have HCS := hide hcs9
          have HCJ := hide hcj9
          have HFJ := hide hfj9
          clear hw8 hw9 b8 b9 b89 z8 z9 hBs hcs9 hcj9 hfj9 HNM hcw hfw hcBl
          have HEX := hide (HE.out w9 (HBW.out.trans (HB89.out.mono HBW.out.size)))
          gi_wp2_with (first
            | (refine ⟨trivial, ?_⟩; gi_at_call 14; refine (callsIn_wide.2 HEX.out).mono ?_; rintro e w10 ⟨rfl, hcn6, hsz6, hfar6, hb6⟩)
            | fail)
          have HFAR := hide hfar6
          have HB10 : Hid (Below W.heap.size W w10) := hide (HB89.out.trans (hb6.mono HB89.out.size))
          have hcs := (hb6.cell (p := ⟨Bs, 0, none⟩) (by show Bs < _; rw [HZ9.out]; omega)).trans HCS.out
          have hcj := (hb6.cell (p := ⟨Bs + 1, 0, none⟩) (by show Bs + 1 < _; rw [HZ9.out]; omega)).trans HCJ.out
          have hfj := (hb6.frozen (p := ⟨Bs + 1, 0, none⟩) (by show Bs + 1 < _; rw [HZ9.out]; omega)).trans HFJ.out
          have hsq := each_seq bs 8 w9.heap.size (w9.heap.size + 1) (Bs + 1) w9.heap.size k (by omega) HBL.out (by omega) (fun b hb => by
            obtain ⟨h1, ⟨_, h2⟩, h3⟩ := HB7.out.small b hb
            exact ⟨h1, by omega, fun r hr => by have := h3 r hr; omega⟩) (by rw [HZ9.out]; omega) (by rw [HZ9.out]; omega) w10 HFAR.out hcn6
          have HSZ10 : Hid (Bs + 2 ≤ w10.heap.size) := hide (by have := hb6.size; rw [HZ9.out] at this; exact this)
          clear hfar6 hb6 hcn6 hsz6 HEX HE HCS HCJ HFJ
          refine act_out fun a0 ha0 => ?_
          refine range_with rfl (by omega) (gf := 32) (lb := #[.pointer (some ⟨w9.heap.size + 1, 0, none⟩)]) (by rw [ha0]; rfl) trivial (enters_of Tryd.func32 (by kernel_rfl) rfl) hsq (fun h1 h2 => h1.trans h2) (fun W l o o' _ h1 h2 => Kpt.putObj W l o o' h1 h2) (Below.refl _ _) (fun _ => rfl)
            (EachJ (Bs + 1) Bs sp w10 W)
            (fun c _ => EachX (Bs + 1) Bs sp W c)
            (fun s A B row hs hg hr => ⟨hs.1.trans (Kpt.grown hg fun r e => (hr r e).2), cell_kept hs.2.1 hg fun r e => (hr r e).2, (frozen_kept hs.2.1 hg fun r e => (hr r e).2).trans hs.2.2.1, cell_kept hs.2.2.2.1 hg fun r e => (hr r e).2, ownFrom_below (Nat.le_refl _) (B := w10.heap.size) (by have := HB10.out.size; omega) () A B row hs.2.2.2.2.1 hg hr, hs.2.2.2.2.2⟩)
            (fun c s A B row hs hg hr => ⟨hs.1, cell_kept hs.2.1 hg fun r e => (hr r e).2, cell_kept hs.2.2.1 hg fun r e => (hr r e).2, ownFrom_below (Nat.le_refl _) (B := w10.heap.size) (by have := HB10.out.size; omega) () A B row hs.2.2.2 hg hr⟩)
            ⟨Kpt.refl _ _ _, hcj, hfj, hcs, HB10.out, Nat.zero_le _⟩
            (fun _ x a' _ => a' = { tmps := (a0.tmps.setIfInBounds 83 ((Yl.vals (Rc.flat bs) x)[0]?.getD undef)).setIfInBounds 84 ((Yl.vals (Rc.flat bs) x)[1]?.getD undef), defers := [] })
            (fun _ _ _ _ _ _ _ hs _ _ => hs) ?assign2 ?body2 ?done2 ?stop2
          case assign2 =>
            intro l pre x W2 K hI _ hK
            have HI := hide hI
            clear hI
            obtain ⟨fx, hfx⟩ : ∃ fx, fx = (Rc.flat bs).getD x.k default := ⟨_, rfl⟩
            have HX := hide hfx
            rw [ha0]
            unfold Yl.vals
            rw [← hfx]
            clear hfx
            gi_wp2
            refine hK _ _ ?_ HI.out (KeepsOthers.refl _) (Kpt.refl _ _ _)
            rw [ha0]
            unfold Yl.vals
            rw [← HX.out]
            simp
          case body2 =>
            rintro l pre x a' W2 hI rfl _
            have HI := hide hI
            obtain ⟨hkp, hcw, hfw, hcS, hbw, hle⟩ := hI
            have HKP := hide hkp
            have HBW2 := hide hbw
            rw [ha0]
            obtain ⟨y0, y1⟩ : Value × Value := ((Yl.vals (Rc.flat bs) x)[0]?.getD undef, (Yl.vals (Rc.flat bs) x)[1]?.getD undef)
            generalize (Yl.vals (Rc.flat bs) x)[0]?.getD undef = v0
            generalize (Yl.vals (Rc.flat bs) x)[1]?.getD undef = v1
            simp only [List.setIfInBounds_toArray, List.set_cons_succ, List.set_cons_zero]
            clear hkp hbw hsq HFAR ha0
            generalize hJ : pre.length = j at *
            have HJ := hide hJ
            clear hJ
            by_cases hjs : j = sp
            · subst hjs
              have u3 : ((j : Int) == (j : Int)) = true := by simp
              gi_wp2_with fail
              exact ⟨KeepsOthers.refl _, rfl, hcw, hcS, HBW2.out⟩
            · have u3 : ((j : Int) == (sp : Int)) = false := by simp; omega
              have hi1 : IntKind.i64.wrap ((j : Int) + 1) = (j : Int) + 1 := IntWalk.i64_in _ (by have := HSP.out; omega)
              have HCW := hide hcw
              have HCSS := hide hcS
              gi_wp2_with fail
              refine ⟨KeepsOthers.setCell _ _ _, Kpt.setBox _ _ _, HKP.out.trans (Kpt.setBox _ _ _), ?_, by rw [World.frozen?_setCell]; exact hfw, (World.cell?_setCell_other _ _ _ _ (by intro e; injection e with e _; omega)).trans HCSS.out, HBW2.out.setCell (p := ⟨Bs + 1, 0, none⟩) (by show _ ≤ Bs + 1; have := HBs.out; omega) _, by rw [List.length_append, HJ.out]; simp; omega⟩
              rw [World.cell?_setCell_same _ _ _ HCW.out, List.length_append, HJ.out]
              simp
          case done2 =>
            rintro D2 xs W2 _ ⟨_, hlen⟩ hI _
            exfalso
            have h1 := hI.2.2.2.2.2
            have h2 := HSP.out
            have h3 := HM.out
            omega
          case stop2 =>
            rintro D2 c pre W2 hD2 _ ⟨rfl, hcj, hcs, hbw2⟩ hK2
            have HBW2 := hide hbw2
            have HK2 := hide hK2
            have HD2 := hide hD2
            have hb2 : Below wr.heap.size wr W2 := HBW.out.trans (hbw2.mono HBW.out.size)
            have HT2 := hide (HT4.out.below hb2 (Nat.le_refl _))
            have HR2 := hide (HR.out W2 (HB5.out.trans (hb2.mono HB5.out.size)))
            have HSB := hide (fun (A' : Option Addr) (c' : Nat) (W' : World) (hb : Below W2.heap.size W2 W') (h : Bats W' A' bs) => sameBatches_eq Al A' cl c' k bs W' HBL.out (by omega) (HT2.out.below hb (Nat.le_refl _)) h (fun b hb => by
              obtain ⟨_, ⟨_, h2⟩, h3⟩ := HB7.out.small b hb
              exact ⟨by omega, fun r hr => by have := h3 r hr; omega⟩))
            have k6 := (hb2.cell (p := ⟨w.heap.size, 0, none⟩) (by show w.heap.size < _; have := HZ5.out; omega)).trans (HB0C.out)
            have f6 := (hb2.frozen (p := ⟨w.heap.size, 0, none⟩) (by show w.heap.size < _; have := HZ5.out; omega)).trans (HB0F.out)
            have u4 : ((sp : Int) == (sp : Int)) = true := by simp
            have h0W : w.heap.size < W2.heap.size := by have := hb2.size; have := HZ5.out; omega
            rw [ha0]
            clear hbw2 hK2 hD2 hb2 hsq HFAR ha0 HR HT4
            gi_wp2_with (first
              | (refine ⟨trivial, ?_⟩; gi_at_call 13; refine (callsIn_wide.2 HR2.out).mono ?_; rintro e W3 ⟨⟨A3, c3, rfl, -, -, hbt3⟩, hb3⟩; have k7 := (hb3.cell (p := ⟨w.heap.size, 0, none⟩) h0W).trans k6; have f7 := (hb3.frozen (p := ⟨w.heap.size, 0, none⟩) h0W).trans f6; have HB3 := hide hb3; have HBT3 := hide hbt3; clear hb3 hbt3 k6 f6)
              | (refine ⟨trivial, ?_⟩; gi_at_call 12; refine (callsIn_wide.2 (HSB.out A3 c3 _ HB3.out HBT3.out)).mono ?_; rintro e W4 ⟨rfl, hb4⟩; have k8 := (hb4.cell (p := ⟨w.heap.size, 0, none⟩) (Nat.lt_of_lt_of_le h0W HB3.out.size)).trans k7; have f8 := (hb4.frozen (p := ⟨w.heap.size, 0, none⟩) (Nat.lt_of_lt_of_le h0W HB3.out.size)).trans f7; have HB4' := hide (HB3.out.trans (hb4.mono HB3.out.size)); clear hb4 k7 f7)
              | fail)
            have lt : ∀ {W' : World} {i : Nat} {o : Obj}, W'.heap[i]? = some o → i < W'.heap.size := fun h => (Array.getElem?_eq_some_iff.1 h).1
            have hc9 := World.cell?_setCell_same W4 ⟨w.heap.size, 0, none⟩ (.bool true) k8
            have hDD : D < D2 := by have h1 := lt HK.out; have h2 := HD2.out; have h3 := HB10.out.size; omega
            have hK4 := (HBW2.out.block D (lt HK.out)).trans HK.out
            have hK5 := (HB4'.out.block D (lt hK4)).trans hK4
            have hL5 := (HB4'.out.block D2 (lt HK2.out)).trans HK2.out
            have hK6 := (KeepsOthers.setCell W4 ⟨w.heap.size, 0, none⟩ (.bool true)).same D _ hK5 rfl
            have hL6 := (KeepsOthers.setCell W4 ⟨w.heap.size, 0, none⟩ (.bool true)).same D2 _ hL5 rfl
            have hwD : w.heap.size ≤ D := by have := HD.out; have := HB6.out.size; have := HB5.out.size; omega
            have hall : Below w.heap.size w W4 := HB5.out.trans (((HBW.out.trans (HBW2.out.mono HBW.out.size)).trans (HB4'.out.mono (by have := HBW.out.size; have := HBW2.out.size; omega))).mono HB5.out.size)
            obtain ⟨hc10, hb10, hs10⟩ := take_facts hc9 hL6 (hall.setCell (p := ⟨w.heap.size, 0, none⟩) (Nat.le_refl _) _) (by omega)
            have hK7 := (hs10 D (by omega)).trans hK6
            obtain ⟨hc11, hb11, _⟩ := take_facts hc10 hK7 hb10 hwD
            refine ⟨by simp, .inl ⟨D2, _, rfl, run_takeDeferred hL6, ?_⟩⟩
            refine ⟨by simp, .inl ⟨D, _, rfl, run_takeDeferred hK7, ?_⟩⟩
            exact ⟨.bool true, by simp [results, Tryd.f4, go_sem, hc11], rfl, hb11⟩
end Go.Proofs.YtomnkgppldgpkaaDoor
namespace Go.Proofs.YtomnkgppldgpkaaDoor
open Go.RowKit
theorem each_top (A : Option Addr) (cap : Nat) (at_ : Int) (zs : List Int) (w : World) (p : Nat → Addr) (hs : Sents2 w p) (ht : Tabs w) (hle : zs.length ≤ cap) (hm : cap ≤ 9223372036854775807)
    (hA : Ints w A zs) (hz : ∀ k, k < zs.length → -9223372036854775808 ≤ zs.getD k 0 ∧ zs.getD k 0 ≤ 9223372036854775807) (hat : -9223372036854775808 ≤ at_ ∧ at_ ≤ 9223372036854775807) :
    Calls Tryd.prog 4 #[.slice A zs.length cap, .int .i64 at_] w fun e w' => e = .returned (.bool true) ∧ Below w.heap.size w w' := by
  by_cases h : zs.length ≤ 12
  · exact each_law A cap zs.length at_ zs w p hs ht rfl h hm hA hz hat
  · exact reach_far A cap zs.length at_ w p hs ht (by omega) (by omega)
end Go.Proofs.YtomnkgppldgpkaaDoor
