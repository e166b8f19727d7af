/-
  The reference's ValidPairs.
  The reference's reading of pairs.
  The reference's PairBytes.
  EpochBytes, walked.
  EpochBytes: P9.4, for every argument: what Bytes gives, read back, is the same lineage; what Read takes is what the document's reader takes, and its error and place are those. Conditions: none but those of the given row.
-/
import Derived.Test.YtplpakdbahlgaaaDoorE3
import Derived.Deep.LoopGhost
import Derived.Test.YtplpakdbahlgaaaDoorE12
import Derived.Test.YtplpakdbahlgaaaDoorE11
import Derived.Test.YtplpakdbahlgaaaDoorE8
import Derived.Test.YtplpakdbahlgaaaDoorE7
namespace Go.Proofs.YtplpakdbahlgaaaDoor
open Go.RowKit

/-- An error's number. -/
def codeR : Option Nat → Int
  | none => 0
  | some j => 101 + (j : Nat)
theorem rightEp_any (e : Int) (w : World) : Calls Tryd.prog 40 #[.int .i64 e] w fun r w' => r = .returned (.bool (decide (0 ≤ e ∧ e ≤ 1073741824))) ∧ w = w' := by
  by_cases h1 : 0 ≤ e
  · have d1 : decide (0 ≤ e) = true := decide_eq_true h1
    have d2 : decide (0 ≤ e ∧ e ≤ 1073741824) = decide (e ≤ 1073741824) := decide_eq_decide.2 (by omega)
    rw [d2]
    clear d2 h1
    go_enter Tryd.func40, Tryd.ntmps40
    go_wp2_with fail
    go_ret
    exact ⟨rfl, rfl⟩
  · have d1 : decide (0 ≤ e) = false := decide_eq_false h1
    rw [decide_eq_false (fun k => h1 k.1)]
    clear h1
    go_enter Tryd.func40, Tryd.ntmps40
    go_wp2_with fail
    go_ret
    exact ⟨rfl, rfl⟩
theorem rightSt_any (e : Int) (w : World) : Calls Tryd.prog 41 #[.int .i64 e] w fun r w' => r = .returned (.bool (decide (0 ≤ e ∧ e ≤ 1099511627776))) ∧ w = w' := by
  by_cases h1 : 0 ≤ e
  · have d1 : decide (0 ≤ e) = true := decide_eq_true h1
    have d2 : decide (0 ≤ e ∧ e ≤ 1099511627776) = decide (e ≤ 1099511627776) := decide_eq_decide.2 (by omega)
    rw [d2]
    clear d2 h1
    go_enter Tryd.func41, Tryd.ntmps41
    go_wp2_with fail
    go_ret
    exact ⟨rfl, rfl⟩
  · have d1 : decide (0 ≤ e) = false := decide_eq_false h1
    rw [decide_eq_false (fun k => h1 k.1)]
    clear h1
    go_enter Tryd.func41, Tryd.ntmps41
    go_wp2_with fail
    go_ret
    exact ⟨rfl, rfl⟩

set_option maxRecDepth 100000 in
set_option maxHeartbeats 1000000 in
theorem refValid_any (A : Option Addr) (c : Nat) (l : List Ep.Pr) (w : World) (h : PrAt w A c l) :
    Calls Tryd.prog 12 #[.slice A l.length c] w fun r w' => r = .returned (.int .i64 (codeR (Ep.bad l))) ∧ Below w.heap.size w w' := by
  have hle := h.le
  have hmx := h.mx
  have HP := hide h
  by_cases h256 : 256 < l.length
  · have d : decide ((256 : Int) < l.length) = true := decide_eq_true (by omega)
    have e : Ep.bad l = some 3 := if_pos h256
    rw [e]
    generalize l.length = n at *
    clear HP h e
    go_enter Tryd.func12, Tryd.ntmps12
    go_wp2_with fail
    go_ret
    exact ⟨rfl, Below.refl _ _⟩
  · have d : decide ((256 : Int) < l.length) = false := decide_eq_false (by omega)
    obtain ⟨n, hn⟩ : ∃ n, n = l.length := ⟨_, rfl⟩
    obtain ⟨r, hr⟩ : ∃ r, r = codeR (Ep.bad l) := ⟨_, rfl⟩
    have HR4 : Hid (∀ i, i < n → ¬ Ep.right (Ep.pr l i) → r = 105) := hide fun i hi hk => by
      rw [hr]; unfold Ep.bad; rw [if_neg h256, if_pos (fun k => hk (k i (hn ▸ hi)))]; rfl
    have HR2 : Hid ((∀ i, i < n → Ep.right (Ep.pr l i)) → ∀ i, i + 1 < n → ¬ Ep.step (Ep.pr l i) (Ep.pr l (i + 1)) → r = 103) := hide fun hR i hi hk => by
      rw [hr]; unfold Ep.bad; rw [if_neg h256, if_neg (fun k => k fun j hj => hR j (hn ▸ hj)), if_pos (fun k => hk (k i (hn ▸ hi)))]; rfl
    have HR0 : Hid ((∀ i, i < n → Ep.right (Ep.pr l i)) → (∀ i, i + 1 < n → Ep.step (Ep.pr l i) (Ep.pr l (i + 1))) → r = 0) := hide fun hR hS => by
      rw [hr, (Ep.bad_none (l := l)).2 ⟨by omega, fun j hj => hR j (hn ▸ hj), fun j hj => hS j (hn ▸ hj)⟩]; rfl
    rw [← hr, ← hn]
    rw [← hn] at hle d h256
    have hn256 : n ≤ 256 := by omega
    have HAT : Hid (∀ V, Below w.heap.size w V → ∀ k, k < n → ∃ g f, A = some ⟨g, f, none⟩ ∧ V.cell? ⟨g, f + k * 2, none⟩ = some (.int .i64 (Ep.pr l k).ep) ∧ V.cell? ⟨g, f + k * 2 + 1, none⟩ = some (.int .i64 (Ep.pr l k).st)) := hide fun V hb k hk => by
      obtain ⟨g, f, e, _, k1, k2⟩ := (HP.out.below hb).at_ k (hn ▸ hk)
      exact ⟨g, f, e, k1, k2⟩
    have HN := hide hn
    clear HP h hr hn h256
    go_enter Tryd.func12, Tryd.ntmps12
    go_wp2_with fail
    go_loopw [3] (fun kv wq => ∃ i : Nat, i ≤ n ∧ kv = .int .i64 i ∧ (∀ j, j < i → Ep.right (Ep.pr l j)) ∧ Below w.heap.size w wq) (fun kv _ => n - (intOf kv).toNat)
    case atStart => exact ⟨0, Nat.zero_le _, rfl, fun j h => absurd h (Nat.not_lt_zero _), Below.refl _ _⟩
    case round =>
      obtain ⟨i, hi, rfl, hR, hb⟩ := hrel
      have HRI := hide hR
      have HB := hide hb
      by_cases hin : i < n
      · obtain ⟨g, f, rfl, k1, k2⟩ := HAT.out wr hb i hin
        have hlt : decide ((i : Int) < n) = true := decide_eq_true (by omega)
        have HQ1 := hide (fun V => rightEp_any (Ep.pr l i).ep V)
        have HQ2 := hide (fun V => rightSt_any (Ep.pr l i).st V)
        by_cases hk : Ep.right (Ep.pr l i)
        · rw [decide_eq_true hk.1] at HQ1
          rw [decide_eq_true hk.2] at HQ2
          have HR2I : Hid (∀ j, j < i + 1 → Ep.right (Ep.pr l j)) := hide fun j hj => by
            by_cases e : j = i
            · rw [e]; exact hk
            · exact HRI.out j (by omega)
          generalize (Ep.pr l i).ep = pe at *
          generalize (Ep.pr l i).st = ps at *
          clear hR hb hk
          go_wp2_with (first
            | (go_at_call 40; refine (HQ1.out _).mono ?_; rintro e w3 ⟨rfl, e⟩; subst e)
            | (go_at_call 41; refine (HQ2.out _).mono ?_; rintro e w3 ⟨rfl, e⟩; subst e)
            | fail)
          go_roundw
          case rel => exact ⟨i + 1, by omega, by go_num, HR2I.out, HB.out⟩
          case measure => simp [intOf]; omega
        · have HE := hide (HR4.out i hin hk)
          by_cases hk1 : 0 ≤ (Ep.pr l i).ep ∧ (Ep.pr l i).ep ≤ 1073741824
          · have hk2 : ¬ (0 ≤ (Ep.pr l i).st ∧ (Ep.pr l i).st ≤ 1099511627776) := fun k => hk ⟨hk1, k⟩
            rw [decide_eq_true hk1] at HQ1
            rw [decide_eq_false hk2] at HQ2
            generalize (Ep.pr l i).ep = pe at *
            generalize (Ep.pr l i).st = ps at *
            clear hR hb hk hk1 hk2
            go_wp2_with (first
              | (go_at_call 40; refine (HQ1.out _).mono ?_; rintro e w3 ⟨rfl, e⟩; subst e)
              | (go_at_call 41; refine (HQ2.out _).mono ?_; rintro e w3 ⟨rfl, e⟩; subst e)
              | fail)
            go_ret
            exact ⟨congrArg (fun z => Ending.returned (Value.int IntKind.i64 z)) HE.out.symm, HB.out⟩
          · rw [decide_eq_false hk1] at HQ1
            generalize (Ep.pr l i).ep = pe at *
            clear hR hb hk hk1
            go_wp2_with (first
              | (go_at_call 40; refine (HQ1.out _).mono ?_; rintro e w3 ⟨rfl, e⟩; subst e)
              | fail)
            go_ret
            exact ⟨congrArg (fun z => Ending.returned (Value.int IntKind.i64 z)) HE.out.symm, HB.out⟩
      · obtain rfl : i = n := by omega
        have hlt : decide ((i : Int) < i) = false := decide_eq_false (by omega)
        clear hR hb
        go_wp2_with fail
        go_loopw [4] (fun kv wq => ∃ j : Nat, 1 ≤ j ∧ j ≤ max i 1 ∧ kv = .int .i64 j ∧ (∀ k, k + 1 < j → Ep.step (Ep.pr l k) (Ep.pr l (k + 1))) ∧ Below w.heap.size w wq) (fun kv _ => i - (intOf kv).toNat)
        case atStart => exact ⟨1, Nat.le_refl _, by omega, rfl, fun j h => by omega, HB.out⟩
        case round =>
          obtain ⟨j, hj1, hjn, rfl, hS, hb⟩ := hrel
          have HSJ := hide hS
          have HBJ := hide hb
          by_cases hji : j < i
          · obtain ⟨m, rfl⟩ : ∃ m, j = m + 1 := ⟨j - 1, by omega⟩
            obtain ⟨g, f, rfl, k1, k2⟩ := HAT.out wr hb m (by omega)
            obtain ⟨g', f', e', k3, k4⟩ := HAT.out wr hb (m + 1) hji
            injection e' with e'; injection e' with e1 e2; subst e1 e2
            have hlt2 : decide ((m : Int) + 1 < (i : Int)) = true := decide_eq_true (by omega)
            have hw1 : IntKind.i64.wrap ((m : Int) + 1 - 1) = (m : Int) := by rw [IntKind.wrap_i64]; omega
            have hw2 : IntKind.i64.wrap (m : Int) = (m : Int) := by rw [IntKind.wrap_i64]; omega
            have hw3 : IntKind.i64.wrap ((m : Int) + 1 + 1) = (m : Int) + 1 + 1 := by rw [IntKind.wrap_i64]; omega
            have HE : Hid (¬ Ep.step (Ep.pr l m) (Ep.pr l (m + 1)) → r = 103) := hide fun hk => HR2.out HRI.out m hji hk
            have HST : Hid (Ep.step (Ep.pr l m) (Ep.pr l (m + 1)) ↔ (Ep.pr l m).ep < (Ep.pr l (m + 1)).ep ∧ (Ep.pr l m).st < (Ep.pr l (m + 1)).st) := hide Iff.rfl
            obtain ⟨e1, he1⟩ : ∃ e1, e1 = (Ep.pr l m).ep := ⟨_, rfl⟩
            obtain ⟨e2, he2⟩ : ∃ e2, e2 = (Ep.pr l (m + 1)).ep := ⟨_, rfl⟩
            obtain ⟨t1, ht1⟩ : ∃ t1, t1 = (Ep.pr l m).st := ⟨_, rfl⟩
            obtain ⟨t2, ht2⟩ : ∃ t2, t2 = (Ep.pr l (m + 1)).st := ⟨_, rfl⟩
            rw [← he1] at k1 HST
            rw [← he2] at k3 HST
            rw [← ht1] at k2 HST
            rw [← ht2] at k4 HST
            clear hS hb he1 he2 ht1 ht2
            by_cases q1 : e2 ≤ e1
            · have d1 : decide (e2 ≤ e1) = true := decide_eq_true q1
              have HX := hide (HE.out fun k => by have := (HST.out.1 k).1; omega)
              clear q1
              go_wp2_with fail
              go_quiet (fail)
              go_wp2_with fail
              go_ret
              exact ⟨congrArg (fun z => Ending.returned (Value.int IntKind.i64 z)) HX.out.symm, below_drewN HBJ.out _⟩
            · have d1 : decide (e2 ≤ e1) = false := decide_eq_false q1
              by_cases q2 : t2 ≤ t1
              · have d2 : decide (t2 ≤ t1) = true := decide_eq_true q2
                have HX := hide (HE.out fun k => by have := (HST.out.1 k).2; omega)
                clear q1 q2
                go_wp2_with fail
                go_quiet (fail)
                go_wp2_with fail
                go_ret
                exact ⟨congrArg (fun z => Ending.returned (Value.int IntKind.i64 z)) HX.out.symm, below_drewN HBJ.out _⟩
              · have d2 : decide (t2 ≤ t1) = false := decide_eq_false q2
                have HX := hide (HST.out.2 ⟨by omega, by omega⟩)
                clear q1 q2
                go_wp2_with fail
                go_quiet (fail)
                go_wp2_with fail
                go_roundw
                case rel => exact ⟨m + 1 + 1, by omega, by omega, by go_num, fun k hk => by
                  by_cases e : k = m
                  · rw [e]; exact HX.out
                  · exact HSJ.out k (by omega), below_drewN HBJ.out _⟩
                case measure => simp [intOf]; omega
          · have hlt2 : decide ((j : Int) < (i : Int)) = false := decide_eq_false (by omega)
            have HX := hide (HR0.out HRI.out fun k hk => HSJ.out k (by omega))
            clear hS hb
            go_wp2_with fail
            go_ret
            exact ⟨congrArg (fun z => Ending.returned (Value.int IntKind.i64 z)) HX.out.symm, HBJ.out⟩

end Go.Proofs.YtplpakdbahlgaaaDoor

namespace Go.Proofs.YtplpakdbahlgaaaDoor
open Go.RowKit

theorem fault_fltQ (w : World) (p : Nat → Addr) (hs : Sents w p) (E : Value) (q : Nat × Option Nat) (h : FltQ w p E q) :
    Calls Tryd.prog 62 #[E] w fun e w' => e = .returned (faultV (q.1 : Nat) q.2.isSome ((q.2.getD 0 : Nat) : Int)) ∧ Below w.heap.size w w' := by
  rcases h with ⟨rfl, rfl⟩ | ⟨j, hj, -, rfl, rfl⟩ | ⟨x, a, h1, h2, rfl, h4, h5, h6⟩
  · exact fault_nil w
  · exact fault_sent w p hs j hj
  · refine (fault_at w p hs x a (q.1 - 101) (by omega) h4 h5 h6).mono fun e w' ⟨h, hb⟩ => ⟨?_, hb⟩
    rw [h, h1, show 101 + (q.1 - 101) = q.1 by omega]; rfl
theorem same_fltQ (w : World) (p : Nat → Addr) (hs : Sents w p) (E : Value) (q : Nat × Option Nat) (h : FltQ w p E q) :
    Calls Tryd.prog 27 #[E, faultV (q.1 : Nat) q.2.isSome ((q.2.getD 0 : Nat) : Int)] w fun e w' => e = .returned (.bool true) ∧ Below w.heap.size w w' :=
  same_of E _ _ _ w fun W hb => fault_fltQ W p (hs.below hb) E q (h.below hb)
theorem readP_over {l : List UInt8} {s : Vi.Rs} (ys : List Ep.Pr) (R : List Ep.Pr × Nat × Option Nat) (h : R = if s.code ≠ 0 then ([], s.code, s.pos) else if s.at_ < l.length then ([], 104, some s.at_) else match Ep.bad ys with | some j => ([], 101 + j, none) | none => (ys, 0, none)) : R = if (overN l s).1 = 0 then (match Ep.bad ys with | some j => ([], 101 + j, none) | none => (ys, 0, none)) else ([], overN l s) := by
  rw [h]
  by_cases hc : s.code ≠ 0
  · have e : overN l s = (s.code, s.pos) := if_neg (fun h => hc h.1)
    rw [if_pos hc, e, if_neg hc]
  · have hc0 : s.code = 0 := by omega
    rw [if_neg hc]
    by_cases ha : s.at_ < l.length
    · have e : overN l s = (104, some s.at_) := if_pos ⟨hc0, ha⟩
      rw [if_pos ha, e, if_neg (by simp)]
    · have e : overN l s = (s.code, s.pos) := if_neg (fun h => ha h.2)
      rw [if_neg ha, e, if_pos hc0]
theorem RRd.newQ (w : World) (A : Option Addr) (cap : Nat) (l : List UInt8) (h : Arg w A cap l) : RRd (w.alloc (.cells #[.slice A l.length cap, .int .i64 0, .int .i64 0, .bool false, .int .i64 0] 97)) A cap w.heap.size l (fine 0) := by
  have hb : Below w.heap.size w (w.alloc (.cells #[.slice A l.length cap, .int .i64 0, .int .i64 0, .bool false, .int .i64 0] 97)) := balloc (Below.refl _ _) _
  refine ⟨by simp, fun k => by simp [go_sem], ⟨Nat.zero_le _, .inl ⟨rfl, rfl⟩⟩, ?_, ?_, ?_, ?_, ?_, h.below hb (Nat.le_refl _), fun b off e hl => ?_, fun k hk => ?_⟩
  · rw [World.cell?_alloc_mark]; rfl
  · rw [World.cell?_alloc_mark]; rfl
  · rw [World.cell?_alloc_mark]; rfl
  · rw [World.cell?_alloc_mark]; rfl
  · rw [World.cell?_alloc_mark]; rfl
  · rcases h.reads with h0 | ⟨b', off', e', hlt, _⟩
    · exact absurd h0 hl
    · rw [e] at e'
      injection e' with e'
      injection e' with e1
      omega
  · rw [World.cell?_alloc_mark]
    simp
    omega
/-- The reference's reader on its way: the row so far. -/
structure QrSt (w1 w : World) (A : Option Addr) (cap g : Nat) (l : List UInt8) (s : Vi.Rs) (v : Value) (zs : List Ep.Pr) : Prop where
  rd : RRd w A cap g l s
  own : OwnP w w1.heap.size v zs
  but : But g w1 w
  gl : g < w1.heap.size
  arg : l ≠ [] → ∀ b off, A = some ⟨b, off, none⟩ → b < w1.heap.size
section
variable {w1 w w' : World} {A : Option Addr} {cap g : Nat} {l : List UInt8} {s s' : Vi.Rs} {v : Value} {zs : List Ep.Pr}
theorem QrSt.call (h : QrSt w1 w A cap g l s v zs) (hr : RRd w' A cap g l s') (hb : But g w w') : QrSt w1 w' A cap g l s' v zs :=
  ⟨hr, ownsRow_same h.own fun k hk => hb.block k (World.ownsRow.lt h.own k hk).2 (by have := (World.ownsRow.lt h.own k hk).1; have := h.gl; simp; omega), h.but.trans hb, h.gl, h.arg⟩
theorem QrSt.quiet (h : QrSt w1 w A cap g l s v zs) (hb : Below w.heap.size w w') : QrSt w1 w' A cap g l s v zs := h.call (h.rd.below hb) (But.of_below hb)
theorem QrSt.push {v' : Value} {z : Ep.Pr} (h : QrSt w1 w A cap g l s v zs) (hg : w.grownBy w' v.ownBlock) (ho : OwnP w' w1.heap.size v' (zs ++ [z])) : QrSt w1 w' A cap g l s v' (zs ++ [z]) := by
  have hgl := h.gl
  have hrow : ∀ k, v.ownBlock = some k → w1.heap.size ≤ k := fun k hk => (World.ownsRow.lt h.own k hk).1
  have hgr : some g ≠ v.ownBlock := fun e => by have := hrow g e.symm; omega
  have hb := hg.block g h.rd.lt hgr
  have hbs := h.but.size
  have cl : ∀ {o : Nat}, w'.cell? ⟨g, o, none⟩ = w.cell? ⟨g, o, none⟩ := fun {o} => by simp [World.cell?, hb]
  refine ⟨⟨Nat.lt_of_lt_of_le h.rd.lt hg.size, fun k => (World.frozen?_of_block (a := ⟨g, k, none⟩) hb).trans (h.rd.free k), h.rd.ok, cl.trans h.rd.c0, cl.trans h.rd.c1, cl.trans h.rd.c2, cl.trans h.rd.c3, cl.trans h.rd.c4, ⟨h.rd.arg.le, h.rd.arg.max, h.rd.arg.nil, ?_⟩, h.rd.ne, fun k hk => cl.trans (h.rd.past k hk)⟩, ho, ⟨⟨hg.os.trans h.but.grown.os, hg.tape.trans h.but.grown.tape, hg.output.trans h.but.grown.output, Nat.le_trans hbs hg.size, fun k hk hne => ?_⟩, fun _ => cl.trans (h.but.first hgl)⟩, hgl, h.arg⟩
  · rcases h.rd.arg.reads with hr | ⟨b, off, e, hlt, hc⟩
    · exact .inl hr
    · by_cases hl : l = []
      · exact .inl hl
      · refine .inr ⟨b, off, e, Nat.lt_of_lt_of_le hlt hg.size, fun k hk => ?_⟩
        have := hg.block b hlt (fun e' => by have := hrow b e'.symm; have := h.arg hl b off e; omega)
        have e2 : w'.cell? ⟨b, off + k, none⟩ = w.cell? ⟨b, off + k, none⟩ := by simp [World.cell?, this]
        exact e2.trans (hc k hk)
  · exact (hg.block k (Nat.lt_of_lt_of_le hk hbs) fun e => by have := hrow k e.symm; omega).trans (h.but.block k hk hne)
end

theorem But.belE {g : Nat} {w0 w w' : World} {C : Nat} (h : But g w w') (hb : Below C w0 w) (hC : C ≤ w.heap.size) (hg : C ≤ g) : Below C w0 w' := hb.grown h.grown hC fun k hk => by injection hk with hk; omega
theorem eFault_set {w W : World} (h : W.heap[w.heap.size]? = some (.cells #[.int .i64 0, .bool false, .int .i64 0] 48 (0, 0))) (hb : Below w.heap.size w W) (c : Int) (b : Bool) (p : Int) :
    ∃ W9, W9 = ((W.setCell ⟨w.heap.size, 0, none⟩ (.int .i64 c)).setCell ⟨w.heap.size, 1, none⟩ (.bool b)).setCell ⟨w.heap.size, 2, none⟩ (.int .i64 p) ∧ Below w.heap.size w W9 ∧ W9.cell? ⟨w.heap.size, 0, none⟩ = some (.int .i64 c) ∧ W9.cell? ⟨w.heap.size, 1, none⟩ = some (.bool b) ∧ W9.cell? ⟨w.heap.size, 2, none⟩ = some (.int .i64 p) ∧ ∀ k, k ≠ w.heap.size → W9.heap[k]? = W.heap[k]? := by
  refine ⟨_, rfl, bset (bset (bset hb 0 _) 1 _) 2 _, ?_, ?_, ?_, fun k hk => (Below.heap_setCell _ _ _ _ hk).trans ((Below.heap_setCell _ _ _ _ hk).trans (Below.heap_setCell _ _ _ _ hk))⟩
  · rw [World.cell?_setCell_other _ _ _ _ (by simp), World.cell?_setCell_other _ _ _ _ (by simp)]
    exact World.cell?_setCell_same _ _ _ (box_cell h 0)
  · rw [World.cell?_setCell_other _ _ _ _ (by simp)]
    exact World.cell?_setCell_same _ _ _ ((World.cell?_setCell_other _ _ _ _ (by simp)).trans (box_cell h 1))
  · exact World.cell?_setCell_same _ _ _ ((World.cell?_setCell_other _ _ _ _ (by simp)).trans ((World.cell?_setCell_other _ _ _ _ (by simp)).trans (box_cell h 2)))
theorem eBare_any (c : Int) (w : World) :
    Calls Tryd.prog 42 #[.int .i64 c] w fun e w' => e = .returned (faultV c false 0) ∧ Below w.heap.size w w' := by
  go_enter Tryd.func42, Tryd.ntmps42
  go_wp2_with fail
  go_returns
  exact ⟨rfl, balloc (Below.refl _ _) _⟩
theorem eNone_any (w : World) :
    Calls Tryd.prog 60 #[] w fun e w' => e = .returned (faultV 0 false 0) ∧ Below w.heap.size w w' := by
  go_enter Tryd.func60, Tryd.ntmps60
  go_wp2_with fail
  go_returns
  exact ⟨rfl, balloc (Below.refl _ _) _⟩
set_option maxRecDepth 100000 in
set_option maxHeartbeats 4000000 in
theorem refRead_any (A : Option Addr) (cap n : Nat) (b : List UInt8) (w : World) (hn : b.length = n) (hl : n ≤ 100000) (ha : Arg w A cap b) :
    Calls Tryd.prog 26 #[.slice A n cap] w fun e w' => Below w.heap.size w w' ∧ ∃ A' c, e = .returned (.tuple #[.slice A' (Vi.readP b).1.length c, faultV ((Vi.readP b).2.1 : Nat) (Vi.readP b).2.2.isSome (((Vi.readP b).2.2.getD 0 : Nat) : Int)]) ∧ PrAt w' A' c (Vi.readP b).1 := by
  obtain ⟨w0, hw0⟩ : ∃ w0, w0 = w.alloc (.cells #[.int .i64 0, .bool false, .int .i64 0] 48) := ⟨_, rfl⟩
  have hb0 : Below w.heap.size w w0 := by rw [hw0]; exact balloc (Below.refl _ _) _
  have hz0 : w0.heap.size = w.heap.size + 1 := by rw [hw0]; simp
  obtain ⟨w9, hw9⟩ : ∃ w9, w9 = w0.alloc (.cells #[.slice A b.length cap, .int .i64 0, .int .i64 0, .bool false, .int .i64 0] 97) := ⟨_, rfl⟩
  have hb9 : Below w0.heap.size w0 w9 := by rw [hw9]; exact balloc (Below.refl _ _) _
  have hr9 : RRd w9 A cap w0.heap.size b (fine 0) := by rw [hw9]; exact RRd.newQ w0 A cap b (ha.below hb0 (Nat.le_refl _))
  have hG : w0.heap.size < w9.heap.size := hr9.lt
  have hFB : w9.heap[w.heap.size]? = some (.cells #[.int .i64 0, .bool false, .int .i64 0] 48 (0, 0)) := (hb9.block w.heap.size (by omega)).trans (by rw [hw0]; exact heap_alloc_new _ _)
  have HFB := hide hFB
  have HNM := hide (rnum_any w9 A cap w0.heap.size b (fine 0) 256 hr9 (by omega))
  have hM := Vi.num_most9 b (fine 0) 256
  obtain ⟨M, hMe⟩ : ∃ M, M = (Vi.num b (fine 0) 256).1 := ⟨_, rfl⟩
  obtain ⟨s0, hs0⟩ : ∃ s0, s0 = (Vi.num b (fine 0) 256).2 := ⟨_, rfl⟩
  obtain ⟨R, hR⟩ : ∃ R, R = Vi.readP b := ⟨_, rfl⟩
  have HR : Hid (R = if (Vi.rdP b M s0 []).2.code ≠ 0 then ([], (Vi.rdP b M s0 []).2.code, (Vi.rdP b M s0 []).2.pos) else if (Vi.rdP b M s0 []).2.at_ < b.length then ([], 104, some (Vi.rdP b M s0 []).2.at_) else match Ep.bad (Vi.rdP b M s0 []).1 with | some j => ([], 101 + j, none) | none => ((Vi.rdP b M s0 []).1, 0, none)) := hide (by rw [hR, hMe, hs0]; rfl)
  rw [← hMe, ← hs0] at HNM
  rw [← hMe] at hM
  rw [← hR]
  have hwM : IntKind.i64.wrap (M : Int) = (M : Int) := by rw [IntKind.wrap_i64]; omega
  have HB9 := hide (hb0.trans (hb9.mono hb0.size))
  have HLN := hide (show b.length ≤ 1000000 by omega)
  have HAR : Hid (b ≠ [] → ∀ b' off, A = some ⟨b', off, none⟩ → b' < w9.heap.size) := hide fun hl b' off e => by
    rcases ha.reads with h0 | ⟨b'', off', e', hlt', -⟩
    · exact absurd h0 hl
    · rw [e] at e'
      injection e' with e'
      injection e' with e1
      have := hb0.size
      omega
  have hw9' : w9 = (w.alloc (.cells #[.int .i64 0, .bool false, .int .i64 0] 48)).alloc (.cells #[.slice A n cap, .int .i64 0, .int .i64 0, .bool false, .int .i64 0] 97) := by rw [hw9, hw0, hn]
  have HW9 := hide hw9'
  rw [hz0] at HNM hG hr9
  generalize hg : w.heap.size + 1 = g at *
  have HG := hide hG
  have HGW : Hid (w.heap.size < g ∧ w.heap.size < w9.heap.size) := hide (by omega)
  clear hb0 hz0 hb9 hFB hMe hs0 hR ha hw9 hw9' hw0 hr9 hn hl
  go_enter Tryd.func26, Tryd.ntmps26
  go_upto_region 2 with fail
  rw [← HW9.out]
  clear hg
  go_wp2_with (first
    | (go_at_call 57; refine HNM.out.mono ?_; rintro e wa ⟨rfl, hra, hba⟩; have HST : Hid (QrSt w9 wa A cap g b s0 (.slice none 0 0) []) := hide ⟨hra, World.ownsRow_nil _ _ _ _, hba, HG.out, HAR.out⟩; clear hra hba)
    | fail)
  clear HNM
  go_loopw [6, 7] (fun pv i wr => ∃ (ys : List Ep.Pr) (s' : Vi.Rs), QrSt w9 wr A cap g b s' pv ys ∧ i = .int .i64 (ys.length : Int) ∧ Vi.rdP b M s0 [] = Vi.rdP b (M - ys.length) s' ys ∧ ys.length ≤ M) (fun _ i _ => M - (intOf i).toNat)
  case atStart => exact ⟨[], s0, HST.out, rfl, by simp, Nat.zero_le _⟩
  case round =>
    obtain ⟨ys, s1, hst, rfl, hlp, hyM⟩ := hrel
    obtain ⟨Ar, cr, rfl, hpr, hpr0, -⟩ := pairs_at hst.own
    have HST' := hide hst
    have HLP := hide hlp
    have HPR := hide hpr
    clear hst hlp HST hpr hpr0
    by_cases hlt2 : ys.length < M
    · have dlt : decide ((ys.length : Int) < M) = true := decide_eq_true (by omega)
      by_cases hcz : s1.code = 0
      · have HON := hide (Vi.rdP_on b M s1 ys ys.length hlt2 hcz)
        have HF := hide (fine_any wr A cap g b s1 true HST'.out.rd (by rw [hcz]; rfl))
        have HI1 := hide (rnum_any wr A cap g b s1 1073741824 HST'.out.rd HLN.out)
        have HI2 := hide (fun (V : World) (hr : RRd V A cap g b (Vi.num b s1 1073741824).2) => rnum_any V A cap g b (Vi.num b s1 1073741824).2 1099511627776 hr HLN.out)
        have hm1 := Vi.num_most9 b s1 1073741824
        have hm2 := Vi.num_most9 b (Vi.num b s1 1073741824).2 1099511627776
        have HPA : Hid (Vi.pair b s1 = (⟨((Vi.num b s1 1073741824).1 : Nat), ((Vi.num b (Vi.num b s1 1073741824).2 1099511627776).1 : Nat)⟩, (Vi.num b (Vi.num b s1 1073741824).2 1099511627776).2)) := hide rfl
        rw [HPA.out] at HON
        generalize Vi.num b (Vi.num b s1 1073741824).2 1099511627776 = q2 at *
        obtain ⟨y, s3⟩ := q2
        generalize Vi.num b s1 1073741824 = q1 at *
        obtain ⟨x, s2⟩ := q1
        simp only at HON HI1 HI2 hm1 hm2
        have hx1 : IntKind.i64.wrap (x : Int) = (x : Int) := by rw [IntKind.wrap_i64]; omega
        have hy1 : IntKind.i64.wrap (y : Int) = (y : Int) := by rw [IntKind.wrap_i64]; omega
        clear HPA hcz
        go_wp2_with (first
          | (go_at_call 58; refine HF.out.mono ?_; rintro e wv ⟨rfl, hwv⟩; obtain rfl : wr = wv := hwv)
          | (go_at_call 57; have _t := H3; refine (HI2.out _ H3.out.rd).mono ?_; rintro e w4 ⟨rfl, hr4, hb4⟩; have H4 := hide (H3.out.call hr4 hb4); clear hr4 hb4)
          | (go_at_call 57; refine HI1.out.mono ?_; rintro e w3 ⟨rfl, hr3, hb3⟩; have H3 := hide (HST'.out.call hr3 hb3); clear hr3 hb3)
          | (at_builtin; refine wpList_appG (w := w4.alloc _) rfl 22 59 2 16 _ (by kernel_rfl) pair_info rfl (by omega) (.tmp 28) (.tmp 34) rfl w9.heap.size _ ys.length (ys.flatMap prCells) rfl (H4.out.quiet (balloc (Below.refl _ _) _)).own ⟨w4.heap.size, 0, none⟩ 1 1 (prCells ⟨x, y⟩) rfl rfl (news2 (w := w4)) (prs_one [⟨x, y⟩]) (by simp [maxLen]; omega) (by omega) (by have := H4.out.but.size; rw [World.size_alloc]; omega) ?_; intro v5 w5 ho5 hg5 hv5; have ho5' : OwnP w5 w9.heap.size v5 (ys ++ [⟨x, y⟩]) := (by unfold OwnP; rw [List.length_append, List.flatMap_append]; exact ho5); have H5 := hide ((H4.out.quiet (balloc (Below.refl _ _) _)).push hg5 ho5'); obtain ⟨A5, c5, rfl, -⟩ := pairs_at ho5'; simp only [List.length_append, List.length_cons, List.length_nil, Nat.zero_add] at H5; clear ho5 hg5 hv5 ho5')
          | fail)
        go_roundw
        case rel => exact ⟨ys ++ [⟨x, y⟩], s3, H5.out, by simp, by rw [HLP.out, HON.out, List.length_append]; rfl, by simp; omega⟩
        case measure => simp [intOf]; omega
      · have dM : (0 : Int) = 0 := rfl
        have HFF := hide (fine_any wr A cap g b s1 false HST'.out.rd (by simp [hcz]))
        have HLQ : Hid (Vi.rdP b M s0 [] = (ys, s1)) := hide (by rw [HLP.out, Vi.rdP_stop _ _ _ _ hcz])
        rw [HLQ.out] at HR
        simp only at HR
        have HRO := hide (readP_over (l := b) (s := s1) ys R HR.out)
        have HOV := hide (rover_any wr A cap g b s1 HST'.out.rd HLN.out)
        have hoc : ¬ (overN b s1).1 = 0 := by rw [show overN b s1 = (s1.code, s1.pos) from if_neg (fun h => hcz h.1)]; exact hcz
        clear HLP HLQ HR dM
        generalize overN b s1 = ov at *
        obtain ⟨oc, op⟩ := ov
        simp only at HRO HOV hoc
        have HQ : Hid (R = ([], oc, op)) := hide (by rw [HRO.out, if_neg hoc])
        have hoc0 : ((oc : Int) == 0) = false := by simp; exact hoc
        clear HRO
        go_upto_region 11 with (first
          | (go_at_call 59; refine HOV.out.mono ?_; rintro e wo ⟨rfl, hbo, hbb⟩; have HBO := hide hbo; have HBT := hide (HST'.out.but.trans hbb); clear hbo hbb)
          | (go_at_call 58; have _t := HBO; refine (HBO.out.fine _ hoc0).mono ?_; rintro e wv ⟨rfl, hwv⟩; obtain rfl : wo = wv := hwv)
          | (go_at_call 58; refine HFF.out.mono ?_; rintro e wv ⟨rfl, hwv⟩; obtain rfl : wr = wv := hwv)
          | fail)
        have z2 := HBO.out.c2
        have z3 := HBO.out.c3
        have z4 := HBO.out.c4
        have hfb : wo.heap[w.heap.size]? = some (.cells #[.int .i64 0, .bool false, .int .i64 0] 48 (0, 0)) := (HBT.out.block w.heap.size HGW.out.2 (by simp; have := HGW.out.1; omega)).trans HFB.out
        have HFO := hide hfb
        have HBW := hide (HBT.out.belE HB9.out (Nat.le_of_lt HGW.out.2) (Nat.le_of_lt HGW.out.1))
        have y0 := box_cell hfb 0
        have y1 := box_cell hfb 1
        have y2 := box_cell hfb 2
        have g0 := box_free hfb 0
        have g1 := box_free hfb 1
        have g2 := box_free hfb 2
        go_region_law (fail)
        go_wp2_with fail
        obtain ⟨W9, hW, hB9, u0, u1, u2, -⟩ := eFault_set HFO.out HBW.out (oc : Int) op.isSome ((op.getD 0 : Nat) : Int)
        rw [← hW]
        clear hW
        have HW9 := hide hB9.drew
        clear hB9
        refine bodyPost_ret (v := .tuple #[.slice none 0 0, faultV (oc : Int) op.isSome ((op.getD 0 : Nat) : Int)]) (by simp [results, Tryd.results26, go_sem, faultV, u0, u1, u2]) rfl ?_
        rw [HQ.out]
        exact ⟨HW9.out, none, 0, rfl, PrAt.nil _ none 0 (by omega)⟩
    · obtain rfl : ys.length = M := by omega
      have dlt : decide ((ys.length : Int) < ys.length) = false := decide_eq_false (by omega)
      have HLQ : Hid (Vi.rdP b ys.length s0 [] = (ys, s1)) := hide (by rw [HLP.out, Nat.sub_self]; rfl)
      rw [HLQ.out] at HR
      simp only at HR
      have HRO := hide (readP_over (l := b) (s := s1) ys R HR.out)
      have HOV := hide (rover_any wr A cap g b s1 HST'.out.rd HLN.out)
      clear HLP HLQ HR
      generalize overN b s1 = ov at *
      obtain ⟨oc, op⟩ := ov
      simp only at HRO HOV
      by_cases hoc : oc = 0
      · subst hoc
        have HRB : Hid (R = match Ep.bad ys with | some j => ([], 101 + j, none) | none => (ys, 0, none)) := hide (by rw [HRO.out, if_pos rfl])
        have HVL := hide (fun V (h : PrAt V Ar cr ys) => refValid_any Ar cr ys V h)
        have HROW : Hid (∀ V, But g wr V → OwnP V w9.heap.size (.slice Ar ys.length cr) ys ∧ PrAt V Ar cr ys) := hide fun V hb => by
          have ho : OwnP V w9.heap.size (.slice Ar ys.length cr) ys := ownsRow_same HST'.out.own fun k hk => hb.block k (World.ownsRow.lt HST'.out.own k hk).2 (by have := (World.ownsRow.lt HST'.out.own k hk).1; have := HST'.out.gl; simp; omega)
          obtain ⟨A', c', e', hp, -, -⟩ := pairs_at ho
          injection e' with e1 _ e2
          subst e1 e2
          exact ⟨ho, hp⟩
        clear HRO
        cases hbd : Ep.bad ys with
        | some j =>
          rw [hbd] at HRB HVL
          simp only [codeR] at HRB HVL
          have hj0 : (((101 : Int) + (j : Nat)) != 0) = true := by simp; omega
          go_wp2_with (first
            | (go_at_call 59; refine HOV.out.mono ?_; rintro e wo ⟨rfl, hbo, hbb⟩; have HBO := hide hbo; have HBT := hide hbb; clear hbo hbb)
            | (go_at_call 58; have _t := HBO; refine (HBO.out.fine _ rfl).mono ?_; rintro e wv ⟨rfl, hwv⟩; obtain rfl : wo = wv := hwv)
            | (go_at_call 12; refine (HVL.out wo (HROW.out wo HBT.out).2).mono ?_; rintro e w5 ⟨rfl, hb5⟩; have HB5 := hide (((HST'.out.but.trans HBT.out).belE HB9.out (Nat.le_of_lt HGW.out.2) (Nat.le_of_lt HGW.out.1)).trans (hb5.mono (Nat.le_trans (Nat.le_of_lt HGW.out.2) (HST'.out.but.trans HBT.out).size))); have HF5 := hide ((hb5.block w.heap.size (Nat.lt_of_lt_of_le HGW.out.2 (HST'.out.but.trans HBT.out).size)).trans (((HST'.out.but.trans HBT.out).block w.heap.size HGW.out.2 (by simp; have := HGW.out.1; omega)).trans HFB.out)); have HW5 : Hid (OwnP w5 w9.heap.size (.slice Ar ys.length cr) ys) := hide (ownsRow_same (HROW.out wo HBT.out).1 fun k hk => hb5.block k (World.ownsRow.lt (HROW.out wo HBT.out).1 k hk).2); clear hb5)
            | (go_at_call 42; refine (eBare_any _ _).mono ?_; rintro e w7 ⟨rfl, hb7⟩; have HB7 := hide (HB5.out.trans (hb7.mono HB5.out.size)); have hf7 := (hb7.block _ (Array.getElem?_eq_some_iff.1 HF5.out).1).trans HF5.out; have HF7 := hide hf7; have HW7 : Hid (OwnP w7 w9.heap.size (.slice Ar ys.length cr) ys) := hide (ownsRow_same HW5.out fun k hk => hb7.block k (World.ownsRow.lt HW5.out k hk).2); have r0 := box_cell hf7 0; have r1 := box_cell hf7 1; have r2 := box_cell hf7 2; have z0 := box_free hf7 0; have z1 := box_free hf7 1; have z2 := box_free hf7 2; simp only [List.getElem?_toArray, List.getElem?_cons_zero, List.getElem?_cons_succ] at r0 r1 r2; clear hb7 hf7)
            | fail)
          obtain ⟨W9, hW, hB9, u0, u1, u2, -⟩ := eFault_set HF7.out HB7.out ((101 : Int) + (j : Nat)) false 0
          rw [← hW]
          clear hW
          refine bodyPost_ret (v := .tuple #[.slice none 0 0, faultV ((101 : Int) + (j : Nat)) false 0]) (by simp [results, Tryd.results26, go_sem, faultV, u0, u1, u2]) rfl ?_
          rw [HRB.out]
          exact ⟨hB9, none, 0, rfl, PrAt.nil _ none 0 (by omega)⟩
        | none =>
          rw [hbd] at HRB HVL
          simp only [codeR] at HRB HVL
          go_wp2_with (first
            | (go_at_call 59; refine HOV.out.mono ?_; rintro e wo ⟨rfl, hbo, hbb⟩; have HBO := hide hbo; have HBT := hide hbb; clear hbo hbb)
            | (go_at_call 58; have _t := HBO; refine (HBO.out.fine _ rfl).mono ?_; rintro e wv ⟨rfl, hwv⟩; obtain rfl : wo = wv := hwv)
            | (go_at_call 12; refine (HVL.out wo (HROW.out wo HBT.out).2).mono ?_; rintro e w5 ⟨rfl, hb5⟩; have HB5 := hide (((HST'.out.but.trans HBT.out).belE HB9.out (Nat.le_of_lt HGW.out.2) (Nat.le_of_lt HGW.out.1)).trans (hb5.mono (Nat.le_trans (Nat.le_of_lt HGW.out.2) (HST'.out.but.trans HBT.out).size))); have HF5 := hide ((hb5.block w.heap.size (Nat.lt_of_lt_of_le HGW.out.2 (HST'.out.but.trans HBT.out).size)).trans (((HST'.out.but.trans HBT.out).block w.heap.size HGW.out.2 (by simp; have := HGW.out.1; omega)).trans HFB.out)); have HW5 : Hid (OwnP w5 w9.heap.size (.slice Ar ys.length cr) ys) := hide (ownsRow_same (HROW.out wo HBT.out).1 fun k hk => hb5.block k (World.ownsRow.lt (HROW.out wo HBT.out).1 k hk).2); clear hb5)
            | (go_at_call 60; refine (eNone_any _).mono ?_; rintro e w7 ⟨rfl, hb7⟩; have HB7 := hide (HB5.out.trans (hb7.mono HB5.out.size)); have hf7 := (hb7.block _ (Array.getElem?_eq_some_iff.1 HF5.out).1).trans HF5.out; have HF7 := hide hf7; have HW7 : Hid (OwnP w7 w9.heap.size (.slice Ar ys.length cr) ys) := hide (ownsRow_same HW5.out fun k hk => hb7.block k (World.ownsRow.lt HW5.out k hk).2); have r0 := box_cell hf7 0; have r1 := box_cell hf7 1; have r2 := box_cell hf7 2; have z0 := box_free hf7 0; have z1 := box_free hf7 1; have z2 := box_free hf7 2; simp only [List.getElem?_toArray, List.getElem?_cons_zero, List.getElem?_cons_succ] at r0 r1 r2; clear hb7 hf7)
            | fail)
          obtain ⟨W9, hW, hB9, u0, u1, u2, ho9⟩ := eFault_set HF7.out HB7.out 0 false 0
          rw [← hW]
          clear hW
          refine bodyPost_ret (v := .tuple #[.slice Ar ys.length cr, faultV 0 false 0]) (by simp [results, Tryd.results26, go_sem, faultV, u0, u1, u2]) rfl ?_
          rw [HRB.out]
          exact ⟨hB9, Ar, cr, rfl, by
            obtain ⟨A', c', e', hp, -, -⟩ := pairs_at (w := W9) (base := w9.heap.size) (v := .slice Ar ys.length cr) (l := ys) (ownsRow_same HW7.out fun k hk => ho9 k (by have := (World.ownsRow.lt HW7.out k hk).1; have := HGW.out; omega))
            injection e' with e1 _ e2
            subst e1 e2
            exact hp⟩
      · have HQ : Hid (R = ([], oc, op)) := hide (by rw [HRO.out, if_neg hoc])
        have hoc0 : ((oc : Int) == 0) = false := by simp; exact hoc
        clear HRO
        go_upto_region 11 with (first
          | (go_at_call 59; refine HOV.out.mono ?_; rintro e wo ⟨rfl, hbo, hbb⟩; have HBO := hide hbo; have HBT := hide (HST'.out.but.trans hbb); clear hbo hbb)
          | (go_at_call 58; have _t := HBO; refine (HBO.out.fine _ hoc0).mono ?_; rintro e wv ⟨rfl, hwv⟩; obtain rfl : wo = wv := hwv)
          | (go_at_call 58; refine HFF.out.mono ?_; rintro e wv ⟨rfl, hwv⟩; obtain rfl : wr = wv := hwv)
          | fail)
        have z2 := HBO.out.c2
        have z3 := HBO.out.c3
        have z4 := HBO.out.c4
        have hfb : wo.heap[w.heap.size]? = some (.cells #[.int .i64 0, .bool false, .int .i64 0] 48 (0, 0)) := (HBT.out.block w.heap.size HGW.out.2 (by simp; have := HGW.out.1; omega)).trans HFB.out
        have HFO := hide hfb
        have HBW := hide (HBT.out.belE HB9.out (Nat.le_of_lt HGW.out.2) (Nat.le_of_lt HGW.out.1))
        have y0 := box_cell hfb 0
        have y1 := box_cell hfb 1
        have y2 := box_cell hfb 2
        have g0 := box_free hfb 0
        have g1 := box_free hfb 1
        have g2 := box_free hfb 2
        go_region_law (fail)
        go_wp2_with fail
        obtain ⟨W9, hW, hB9, u0, u1, u2, -⟩ := eFault_set HFO.out HBW.out (oc : Int) op.isSome ((op.getD 0 : Nat) : Int)
        rw [← hW]
        clear hW
        have HW9 := hide hB9.drew
        clear hB9
        refine bodyPost_ret (v := .tuple #[.slice none 0 0, faultV (oc : Int) op.isSome ((op.getD 0 : Nat) : Int)]) (by simp [results, Tryd.results26, go_sem, faultV, u0, u1, u2]) rfl ?_
        rw [HQ.out]
        exact ⟨HW9.out, none, 0, rfl, PrAt.nil _ none 0 (by omega)⟩
end Go.Proofs.YtplpakdbahlgaaaDoor

namespace Go.Proofs.YtplpakdbahlgaaaDoor
open Go.RowKit

theorem refput_nil (n : Nat) (w : World) (hn : n < 18446744073709551616) :
    Calls Tryd.prog 64 #[.int .u64 n] w fun e w' => ∃ A c, e = .returned (.slice A (Vi.size n) c) ∧ Own w' w.heap.size (.slice A (Vi.size n) c) (Vi.put n) ∧ Arg w' A c (Vi.put n) ∧ Below w.heap.size w w' := by
  refine (refPut_any n w hn).mono ?_
  rintro e w' ⟨v, rfl, ho, hb⟩
  obtain ⟨A, c, rfl, ha⟩ := own_len ho rfl
  exact ⟨A, c, rfl, ho, ha, hb⟩
set_option maxRecDepth 100000 in
set_option maxHeartbeats 2000000 in
theorem refBytes_any (A : Option Addr) (c : Nat) (l : List Ep.Pr) (w : World) (hp : PrAt w A c l) (ho : Ep.Ok l) :
    Calls Tryd.prog 30 #[.slice A l.length c] w fun e w' => ∃ v, e = .returned v ∧ Own w' w.heap.size v (Vi.pairsB l) ∧ Below w.heap.size w w' := by
  have hlen := ho.len
  have HA := hide hp
  have HOK := hide ho
  have hle := hp.le
  obtain ⟨n, hn⟩ : ∃ n, n = l.length := ⟨_, rfl⟩
  have HN := hide hn.symm
  rw [← hn] at hlen hle ⊢
  have hwn : IntKind.u64.wrap (n : Int) = (n : Int) := by rw [IntKind.wrap_u64]; omega
  have HPN := hide (refput_nil n w (by omega))
  have HSN : Hid ((Vi.put n).length ≤ 10) := hide (by have := Vi.size_le10 (n := n) (by omega); unfold Vi.size at this; exact this)
  clear ho hp hn
  go_enter Tryd.func30, Tryd.ntmps30
  go_wp2_with (first
    | (go_at_call 64; refine HPN.out.mono ?_; rintro e w1 ⟨A1, c1, rfl, ho1, -, hb1⟩; have HO1 := hide ho1; have HB1 := hide hb1; clear ho1 hb1)
    | fail)
  go_loopw [3, 4] (fun b i wr => ∃ k : Nat, k ≤ n ∧ i = .int .i64 k ∧ Own wr w.heap.size b (Vi.put n ++ (l.take k).flatMap Vi.pairB) ∧ Below w.heap.size w wr) (fun _ i _ => n - (intOf i).toNat)
  case atStart => exact ⟨0, Nat.zero_le _, rfl, by rw [List.take_zero, List.flatMap_nil, List.append_nil]; exact HO1.out, HB1.out⟩
  case round =>
    obtain ⟨k, hk, rfl, ho, hb⟩ := hrel
    have HO := hide ho
    have HB := hide hb
    by_cases hlt : k < n
    · obtain ⟨g, f, rfl, -, k0, k1⟩ := (HA.out.below hb).at_ k (by rw [HN.out]; exact hlt)
      have HK1 : Hid (∀ V, Below w.heap.size w V → V.cell? ⟨g, f + k * 2 + 1, none⟩ = some (.int .i64 (Ep.pr l k).st)) := hide fun V hv => by
        obtain ⟨g', f', e', -, -, k1'⟩ := (HA.out.below hv).at_ k (by rw [HN.out]; exact hlt)
        injection e' with e'
        injection e' with e1 e2
        subst e1 e2
        exact k1'
      have d1 : decide ((k : Int) < n) = true := decide_eq_true (by omega)
      have hrt := HOK.out.right k (by rw [HN.out]; exact hlt)
      have hpre : (Vi.put n ++ (l.take k).flatMap Vi.pairB).length ≤ 10 + 20 * k := by
        have h1 := Vi.pairsB_flat (l.take k) (HOK.out.right.take k)
        have h2 := HSN.out
        rw [List.length_take] at h1
        rw [List.length_append]
        omega
      have HT : Hid ((Vi.put n ++ (l.take (k + 1)).flatMap Vi.pairB) = Vi.put n ++ (l.take k).flatMap Vi.pairB ++ Vi.put (Ep.pr l k).ep.toNat ++ Vi.put (Ep.pr l k).st.toNat) := hide (by
        rw [flat_succ Vi.pairB l k (by rw [HN.out]; exact hlt), ← Ep.pr_lt (by rw [HN.out]; exact hlt)]
        show _ ++ (_ ++ (_ ++ _)) = _
        simp only [List.append_assoc])
      generalize Ep.pr l k = q at *
      obtain ⟨e, s⟩ := q
      obtain ⟨⟨r1, r2⟩, r3, r4⟩ := hrt
      simp only at k0 k1 HK1 HT r1 r2 r3 r4
      obtain ⟨x, rfl⟩ := Int.eq_ofNat_of_zero_le r1
      obtain ⟨y, rfl⟩ := Int.eq_ofNat_of_zero_le r3
      simp only [Int.toNat_natCast] at HT
      have hwx : IntKind.u64.wrap (x : Int) = (x : Int) := by rw [IntKind.wrap_u64]; omega
      have hwy : IntKind.u64.wrap (y : Int) = (y : Int) := by rw [IntKind.wrap_u64]; omega
      have HPX := hide (fun V => refput_nil x V (by omega))
      have HPY := hide (fun V => refput_nil y V (by omega))
      have hzx := Vi.size_le10 (n := x) (by omega)
      have hzy := Vi.size_le10 (n := y) (by omega)
      have HLX : Hid ((Vi.put x).length = Vi.size x) := hide rfl
      have HLY : Hid ((Vi.put y).length = Vi.size y) := hide rfl
      have HB2 : Hid (Below w.heap.size w wr) := hide hb
      have HO2 : Hid (Own wr w.heap.size u3 (Vi.put n ++ (l.take k).flatMap Vi.pairB)) := hide ho
      have HPL := hide hpre
      generalize (Vi.put n ++ (l.take k).flatMap Vi.pairB) = pre at *
      generalize Vi.put x = px at *
      generalize Vi.size x = sx at *
      generalize Vi.put y = py at *
      generalize Vi.size y = sy at *
      clear ho hb r1 r2 r3 r4 hpre
      go_wp2_with (first
        | (go_at_call 64; have _t := HO4; refine (HPY.out w4).mono ?_; rintro e w5 ⟨A5, c5, rfl, -, ha5, hb5⟩; have HA5 := hide ha5; have HO5 := hide (HO4.out.below hb5 (Nat.le_refl _)); have HB5 := hide (HB4.out.trans (hb5.mono HB4.out.size)); clear ha5 hb5)
        | (go_at_call 64; refine (HPX.out wr).mono ?_; rintro e w3 ⟨A3, c3, rfl, -, ha3, hb3⟩; have HA3 := hide ha3; have HO3 := hide (HO2.out.below hb3 (Nat.le_refl _)); have HB3 := hide (HB2.out.trans (hb3.mono HB2.out.size)); clear ha3 hb3)
        | (at_builtin; have _t := HO5; refine wpList_app (w := w5) rfl (.tmp 24) (.tmp 31) rfl w.heap.size _ (pre ++ px) py rfl HO5.out A5 sy c5 rfl HLY.out HA5.out.reads (by have := HPL.out; have := HLX.out; rw [List.length_append]; omega) HB5.out.size ?_; intro v6 w6 ho6 hg6 hv6; have hb6 := HB5.out.grown hg6 HB5.out.size (fun g hg => (HO5.out.lt g hg).1); have HO6 := hide ho6; have HB6 := hide hb6; clear ho6 hg6 hv6 hb6)
        | (at_builtin; refine wpList_app (w := w3) rfl (.tmp 15) (.tmp 22) rfl w.heap.size _ pre px rfl HO3.out A3 sx c3 rfl HLX.out HA3.out.reads (by have := HPL.out; omega) HB3.out.size ?_; intro v4 w4 ho4 hg4 hv4; have hb4 := HB3.out.grown hg4 HB3.out.size (fun g hg => (HO3.out.lt g hg).1); have z41 : w4.cell? ⟨g, f + k * 2 + 1, none⟩ = some (.int .i64 y) := HK1.out w4 hb4; have HO4 := hide ho4; have HB4 := hide hb4; clear ho4 hg4 hv4 hb4)
        | fail)
      go_roundw
      case rel => exact ⟨k + 1, by omega, by go_num, by rw [HT.out]; exact HO6.out, HB6.out⟩
      case measure => simp [intOf]; omega
    · obtain rfl : k = n := by omega
      have d1 : decide ((k : Int) < k) = false := decide_eq_false (by omega)
      clear ho hb
      go_wp2_with fail
      go_ret
      refine ⟨_, rfl, ?_, HB.out⟩
      have h := HO.out
      rw [List.take_of_length_le (by rw [HN.out]; exact Nat.le_refl _)] at h
      unfold Vi.pairsB
      rw [HN.out]
      exact h
end Go.Proofs.YtplpakdbahlgaaaDoor

namespace Go.Proofs.YtplpakdbahlgaaaDoor
open Go.RowKit

set_option maxRecDepth 100000 in
set_option maxHeartbeats 8000000 in
theorem bytes9_any (w : World) (p : Nat → Addr) (hs : Sents w p) (A0 A1 : Option Addr) (c0 c1 n0 n1 : Nat) (l : List Ep.Pr) (b : List UInt8) (hn0 : l.length = n0) (hn1 : b.length = n1) (h0 : ArgP w A0 c0 l) (h1 : Arg w A1 c1 b) :
    Calls Tryd.prog 4 #[.slice A0 n0 c0, .slice A1 n1 c1] w fun r w' => r = .returned (.bool true) ∧ Below w.heap.size w w' := by
  have hs3 : Sents3 w p := hs.mono fun j hj => by omega
  have hsq : SentsQ w p := hs.mono fun j hj => by omega
  have HF := hide (first9_any w p hs3)
  by_cases q0 : 300 < n0
  · have d0 : decide ((300 : Int) < n0) = true := decide_eq_true (by omega)
    clear h0 h1 hs hs3 hsq
    go_enter Tryd.func4, Tryd.ntmps4
    go_wp2_with (first
      | (go_at_call 10; refine HF.out.mono ?_; rintro e w2 ⟨rfl, hb2⟩; have HB2 := hide hb2; clear hb2)
      | fail)
    go_ret
    exact ⟨rfl, HB2.out⟩
  have d0 : decide ((300 : Int) < n0) = false := decide_eq_false (by omega)
  by_cases q1 : 300 < n1
  · have d1 : decide ((300 : Int) < n1) = true := decide_eq_true (by omega)
    clear h0 h1 hs hs3 hsq
    go_enter Tryd.func4, Tryd.ntmps4
    go_wp2_with (first
      | (go_at_call 10; refine HF.out.mono ?_; rintro e w2 ⟨rfl, hb2⟩; have HB2 := hide hb2; clear hb2)
      | fail)
    go_ret
    exact ⟨rfl, HB2.out⟩
  have d1 : decide ((300 : Int) < n1) = false := decide_eq_false (by omega)
  obtain ⟨R, hR⟩ : ∃ R, R = Vi.readP b := ⟨_, rfl⟩
  have HRD := hide (fun V (hb : Below w.heap.size w V) => epRead_any A1 c1 n1 b V p (hsq.below hb) hn1 (by omega) (h1.below hb (Nat.le_refl _)))
  have HRF := hide (fun V (hb : Below w.heap.size w V) => refRead_any A1 c1 n1 b V hn1 (by omega) (h1.below hb (Nat.le_refl _)))
  have HSM := hide (fun V E (hb : Below w.heap.size w V) (h : FltQ V p E (R.2.1, R.2.2)) => same_fltQ V p (hs.below hb) E (R.2.1, R.2.2) h)
  have HCN := hide (fun h : (Vi.readP b).2.1 = 0 => Vi.readP_canon h)
  rw [← hR] at HRD HRF HCN
  have HA0 := hide h0
  have HA1 := hide h1
  have HS3 := hide hs3
  have HSQ := hide hsq
  have HSS := hide (fun V (n : Nat) A c A' c' (B : List UInt8) (hn : B.length = n) (hl : n ≤ 1000000) (ha : Arg V A c B) (ha' : Arg V A' c' B) => (sameBytes_any A A' c c' n n B B V hn hn hl hl ha.reads ha'.reads).mono fun e w' h => show e = .returned (.bool true) ∧ Below V.heap.size V w' from ⟨by rw [h.1, decide_eq_true rfl], by obtain ⟨k, hk⟩ := h.2; rw [hk]; exact below_drewN (Below.refl _ _) k⟩)
  have HN0 := hide hn0
  have HN1 := hide hn1
  have hle0 := h0.at_.le
  have kl := fun X W => run_eql_line X W
  have k2 := fun W => eql_nil (p 2) W
  have k3 := fun W => eql_nil (p 3) W
  have k4 := fun W => eql_nil (p 4) W
  unfold errV at k2 k3 k4
  have hn3 : n0 ≤ 300 := by omega
  have hn4 : n1 ≤ 300 := by omega
  clear hs hs3 hsq h0 h1 hR q0 q1
  obtain ⟨ys, qc, qp⟩ := R
  simp only at HRD HRF HSM HCN
  unfold faultV at HRF HSM
  by_cases hqc : qc = 0
  · subst hqc
    obtain ⟨hcb, hoy, hqp⟩ := HCN.out rfl
    injection hqp with _ hqp
    subst hqp
    have HRA : Hid (∀ V, Below w.heap.size w V → Calls Tryd.prog 25 #[.slice A1 n1 c1] V fun e w' => ∃ Y, e = .returned (.tuple #[.pointer (some ⟨Y, 0, none⟩), .nilIface]) ∧ Lns w [(Y, ys)] [] w') := hide fun V hb => (HRD.out V hb).mono fun e w' h => by
      obtain ⟨hb', ⟨h1, -⟩ | ⟨-, -, Y, h1, h2⟩⟩ := h
      · exact absurd rfl h1
      · exact ⟨Y, h1, (Lns.nil hb).add hb' h2 hoy⟩
    have HPR : Hid (∀ V Y, Lns w [(Y, ys)] [] V → Calls Tryd.prog 16 #[.pointer (some ⟨Y, 0, none⟩)] V fun e w' => ∃ A c, e = .returned (.slice A ys.length c) ∧ PrAt w' A c ys ∧ Below V.heap.size V w') := hide fun V Y hV => by
      obtain ⟨S, hS, hok⟩ := hV.get (i := 0) rfl
      refine (epPairs_any Y ys S V (by have := hok.len; omega) hS).mono ?_
      rintro e w' ⟨v, rfl, hv, hb⟩
      obtain ⟨A, c, rfl, hp, -⟩ := pairs_at hv
      exact ⟨A, c, rfl, hp, hb⟩
    have HBY : Hid (∀ V Y, Lns w [(Y, ys)] [] V → Calls Tryd.prog 29 #[.pointer (some ⟨Y, 0, none⟩)] V fun e w' => ∃ A c, e = .returned (.slice A n1 c) ∧ Arg w' A c b ∧ Below V.heap.size V w') := hide fun V Y hV => by
      obtain ⟨S, hS, hok⟩ := hV.get (i := 0) rfl
      refine (epBytes_any Y _ S V hS hok).mono ?_
      rintro e w' ⟨v, rfl, ho, hb⟩
      rw [hcb] at ho
      obtain ⟨A', c', rfl, ha⟩ := own_len ho rfl
      exact ⟨A', c', by rw [HN1.out], ha, hb⟩
    have HYL := hide (show ys.length ≤ 1000000 by have := hoy.len; omega)
    simp only [Option.isSome_none, Option.getD_none, Int.ofNat_zero] at HRF HSM
    clear HRD HCN hcb hoy
    cases hbad : Ep.bad l with
    | some j =>
      have HNW : Hid (∀ V, Below w.heap.size w V → Calls Tryd.prog 11 #[.slice A0 n0 c0] V fun e w' => e = .returned (.tuple #[.pointer none, .iface 123 (.pointer (some (p j)))]) ∧ Below V.heap.size V w') := hide fun V hb => epNew_bad A0 c0 n0 j l V p HN0.out (HS3.out.below hb) (HA0.out.at_.below hb) HA0.out.nil hbad
      have kj := fun W => eql_nil (p j) W
      unfold errV at kj
      clear hbad
      go_enter Tryd.func4, Tryd.ntmps4
      go_wp2_with (first
        | (go_at_call 11; refine (HNW.out _ HBN.out).mono ?_; rintro e wa ⟨rfl, hba⟩; have HBa := hide (HBN.out.trans (hba.mono HBN.out.size)); clear hba)
        | (go_at_call 10; refine HF.out.mono ?_; rintro e w2 ⟨rfl, hb2⟩; have HB2 := hide hb2; clear hb2)
        | (go_at_call 28; have _t := HA8; refine (HSS.out w8 n1 _ _ _ _ b HN1.out (by omega) HA8.out (HA1.out.below HB8.out (Nat.le_refl _))).mono ?_; rintro e w9 ⟨rfl, hb9⟩; have f9 : w9.cell? ⟨w4.heap.size, 0, none⟩ = w9.cell? ⟨w4.heap.size, 0, none⟩ := rfl; have HBN := hide (HB8.out.trans (hb9.mono HB8.out.size)); clear hb9 HA8 f9)
        | (go_at_call 29; have _t := I7; refine (HBY.out w7 Y I7.out).mono ?_; rintro e w8 ⟨A8, c8, rfl, ha8, hb8⟩; have HB8 := hide (I7.out.bel.trans (hb8.mono I7.out.bel.size)); have HA8 := hide ha8; clear ha8 hb8 I7)
        | (go_at_call 23; have _t := I6; refine (samePairs_eq A6 A4 c6 c4 ys.length ys w6 rfl HYL.out HP6.out HW6.out).mono ?_; rintro e w7 ⟨rfl, hb7⟩; have I7 := hide (I6.out.below hb7); clear hb7 I6)
        | (go_at_call 16; have _t := I5; refine (HPR.out w5 Y I5.out).mono ?_; rintro e w6 ⟨A6, c6, rfl, hp6, hb6⟩; have I6 := hide (I5.out.below hb6); have HP6 := hide hp6; have HW6 := hide (HP5.out.below hb6); have HB6 := hide I6.out.bel; clear hp6 hb6 I5)
        | (go_at_call 25; refine (HRA.out w2 HB2.out).mono ?_; rintro e w3 ⟨Y, rfl, h3⟩; have I3 := hide h3; have HB3 := hide h3.bel; clear h3)
        | (go_at_call 26; refine (HRF.out w3 HB3.out).mono ?_; rintro e w4 ⟨hb4, A4, c4, rfl, hp4⟩; have HB4 := hide (HB3.out.trans (hb4.mono HB3.out.size)); have I4 := hide (I3.out.below hb4); have HP4 := hide hp4; have HE4 : Hid (FltQ w4 p .nilIface (0, none)) := hide (.inl ⟨rfl, rfl⟩); clear hb4 hp4)
        | (go_at_call 27; refine (HSM.out _ _ (balloc HB4.out _) (HE4.out.below (balloc (Below.refl _ _) _))).mono ?_; rintro e w5 ⟨rfl, hb5⟩; have f5 : w5.cell? ⟨w4.heap.size, 0, none⟩ = some (.int .i64 0) := (hb5.cell (p := ⟨w4.heap.size, 0, none⟩) (by simp)).trans (by rw [World.cell?_alloc_mark]; rfl); have HB5 := hide ((balloc HB4.out _).trans (hb5.mono (by have := HB4.out.size; simp; omega))); have I5 := hide (I4.out.below ((balloc (Below.refl _ _) _).trans (hb5.mono (by simp)))); have HP5 := hide (HP4.out.below ((balloc (Below.refl _ _) _).trans (hb5.mono (by simp)))); clear hb5)
        | fail)
      go_ret
      exact ⟨rfl, HBa.out⟩
    | none =>
      have hok := Ep.bad_none.1 hbad
      have HNW : Hid (∀ V, Below w.heap.size w V → Calls Tryd.prog 11 #[.slice A0 n0 c0] V fun e w' => ∃ X, e = .returned (.tuple #[.pointer (some ⟨X, 0, none⟩), .nilIface]) ∧ Lns w [(X, l)] [] w') := hide fun V hb => by
        refine (epNew_ok A0 c0 n0 l V p HN0.out (HS3.out.below hb) (HA0.out.at_.below hb) HA0.out.nil hok).mono ?_
        rintro e w' ⟨X, rfl, hx, hb'⟩
        exact ⟨X, rfl, (Lns.nil hb).add hb' hx hok⟩
      obtain ⟨B, hB⟩ : ∃ B, B = Vi.pairsB l := ⟨_, rfl⟩
      have hBl : B.length ≤ 6100 := by
        have h1 := Vi.pairsB_flat l hok.right
        have h2 := Vi.size_le10 (n := l.length) (by have := HN0.out; omega)
        rw [hB]
        unfold Vi.pairsB
        unfold Vi.size at h2
        rw [List.length_append]
        have := HN0.out
        omega
      have HRB := hide (Vi.readP_pairsB hok)
      rw [← hB] at HRB
      have HBX : Hid (∀ V X, Lns w [(X, l)] [] V ∨ (∃ Z, Lns w [(X, l), (Z, l)] [] V) → Calls Tryd.prog 29 #[.pointer (some ⟨X, 0, none⟩)] V fun e w' => ∃ A c, e = .returned (.slice A B.length c) ∧ Arg w' A c B ∧ Below V.heap.size V w') := hide fun V X hV => by
        obtain ⟨S, hS, hok⟩ : ∃ S, EpAt V X l S ∧ Ep.Ok l := by
          rcases hV with h | ⟨Z, h⟩
          · exact h.get (i := 0) rfl
          · exact h.get (i := 0) rfl
        refine (epBytes_any X _ S V hS hok).mono ?_
        rintro e w' ⟨v, rfl, ho, hb⟩
        rw [← hB] at ho
        obtain ⟨A', c', rfl, ha⟩ := own_len ho rfl
        exact ⟨A', c', rfl, ha, hb⟩
      have HRZ : Hid (∀ V X A c, Lns w [(X, l)] [] V → Arg V A c B → Calls Tryd.prog 25 #[.slice A B.length c] V fun e w' => ∃ Z, e = .returned (.tuple #[.pointer (some ⟨Z, 0, none⟩), .nilIface]) ∧ Lns w [(X, l), (Z, l)] [] w') := hide fun V X A c hV ha => by
        refine (epRead_any A c B.length B V p (HSQ.out.below hV.bel) rfl (by omega) ha).mono ?_
        rintro e w' ⟨hb, ⟨h1, -⟩ | ⟨-, -, Y, rfl, hy⟩⟩
        · rw [HRB.out] at h1; exact absurd rfl h1
        · rw [HRB.out] at hy
          exact ⟨Y, rfl, hV.add hb hy hok⟩
      have HPZ : Hid (∀ V X Z, Lns w [(X, l), (Z, l)] [] V → Calls Tryd.prog 16 #[.pointer (some ⟨Z, 0, none⟩)] V fun e w' => ∃ A c, e = .returned (.slice A n0 c) ∧ PrAt w' A c l ∧ Below V.heap.size V w') := hide fun V X Z hV => by
        obtain ⟨S, hS, hok⟩ := hV.get (i := 1) rfl
        refine (epPairs_any Z l S V (by have := hok.len; omega) hS).mono ?_
        rintro e w' ⟨v, rfl, hv, hb⟩
        obtain ⟨A, c, rfl, hp, -⟩ := pairs_at hv
        exact ⟨A, c, by rw [HN0.out], hp, hb⟩
      have HPB : Hid (∀ V, Below w.heap.size w V → Calls Tryd.prog 30 #[.slice A0 n0 c0] V fun e w' => ∃ A c, e = .returned (.slice A B.length c) ∧ Arg w' A c B ∧ Below V.heap.size V w') := hide fun V hb => by
        have := refBytes_any A0 c0 l V (HA0.out.at_.below hb) hok
        rw [HN0.out] at this
        refine this.mono ?_
        rintro e w' ⟨v, rfl, ho, hb⟩
        rw [← hB] at ho
        obtain ⟨A', c', rfl, ha⟩ := own_len ho rfl
        exact ⟨A', c', rfl, ha, hb⟩
      have HBL := hide (show B.length ≤ 1000000 by omega)
      have HLL := hide (show n0 ≤ 1000000 by omega)
      clear hB hok hbad
      go_enter Tryd.func4, Tryd.ntmps4
      go_wp2_with (first
        | (go_at_call 28; have _t := HAg; refine (HSS.out wg B.length _ _ _ _ B rfl HBL.out HAf'.out HAg.out).mono ?_; rintro e wh ⟨rfl, hbh⟩; have HBh := hide (HBg.out.trans (hbh.mono HBg.out.size)); clear hbh)
        | (go_at_call 30; have _t := HAf; refine (HPB.out wf HBf.out).mono ?_; rintro e wg ⟨Ag, cg, rfl, hag, hbg⟩; have HAg := hide hag; have HAf' := hide (HAf.out.below hbg (Nat.le_refl _)); have HBg := hide (HBf.out.trans (hbg.mono HBf.out.size)); clear hag hbg HAf)
        | (go_at_call 29; have _t := HZe; have _t := Ie; refine (HBX.out _ _ (.inr ⟨_, Ie.out⟩)).mono ?_; rintro e wf ⟨Af, cf, rfl, haf, hbf⟩; have HAf := hide haf; have HBf := hide (Ie.out.bel.trans (hbf.mono Ie.out.bel.size)); clear haf hbf Ie)
        | (go_at_call 23; have _t := Id; refine (samePairs_eq Ad A0 cd c0 n0 l wd HN0.out HLL.out HPd.out (HA0.out.below Id.out.bel).at_).mono ?_; rintro e we ⟨rfl, hbe⟩; have Ie := hide (Lns.below Id.out hbe); have HZe := hide trivial; clear hbe Id)
        | (go_at_call 16; have _t := Ic; refine (HPZ.out _ _ _ Ic.out).mono ?_; rintro e wd ⟨Ad, cd, rfl, hpd, hbd⟩; have Id := hide (Ic.out.below hbd); have HPd := hide hpd; clear hpd hbd Ic)
        | (go_at_call 25; have _t := Ib; refine (HRZ.out _ _ _ _ Ib.out HAb.out).mono ?_; rintro e wc ⟨Z, rfl, hc⟩; have Ic := hide hc; clear hc Ib)
        | (go_at_call 29; have _t := Ia; refine (HBX.out _ _ (.inl Ia.out)).mono ?_; rintro e wb ⟨Ab, cb, rfl, hab, hbb⟩; have Ib := hide (Ia.out.below hbb); have HAb := hide hab; clear hab hbb Ia)
        | (go_at_call 11; refine (HNW.out _ HBN.out).mono ?_; rintro e wa ⟨X, rfl, ha⟩; have Ia := hide ha; clear ha HBN)
        | (go_at_call 10; refine HF.out.mono ?_; rintro e w2 ⟨rfl, hb2⟩; have HB2 := hide hb2; clear hb2)
        | (go_at_call 28; have _t := HA8; refine (HSS.out w8 n1 _ _ _ _ b HN1.out (by omega) HA8.out (HA1.out.below HB8.out (Nat.le_refl _))).mono ?_; rintro e w9 ⟨rfl, hb9⟩; have f9 : w9.cell? ⟨w4.heap.size, 0, none⟩ = w9.cell? ⟨w4.heap.size, 0, none⟩ := rfl; have HBN := hide (HB8.out.trans (hb9.mono HB8.out.size)); clear hb9 HA8 f9)
        | (go_at_call 29; have _t := I7; refine (HBY.out w7 Y I7.out).mono ?_; rintro e w8 ⟨A8, c8, rfl, ha8, hb8⟩; have HB8 := hide (I7.out.bel.trans (hb8.mono I7.out.bel.size)); have HA8 := hide ha8; clear ha8 hb8 I7)
        | (go_at_call 23; have _t := I6; refine (samePairs_eq A6 A4 c6 c4 ys.length ys w6 rfl HYL.out HP6.out HW6.out).mono ?_; rintro e w7 ⟨rfl, hb7⟩; have I7 := hide (I6.out.below hb7); clear hb7 I6)
        | (go_at_call 16; have _t := I5; refine (HPR.out w5 Y I5.out).mono ?_; rintro e w6 ⟨A6, c6, rfl, hp6, hb6⟩; have I6 := hide (I5.out.below hb6); have HP6 := hide hp6; have HW6 := hide (HP5.out.below hb6); have HB6 := hide I6.out.bel; clear hp6 hb6 I5)
        | (go_at_call 25; refine (HRA.out w2 HB2.out).mono ?_; rintro e w3 ⟨Y, rfl, h3⟩; have I3 := hide h3; have HB3 := hide h3.bel; clear h3)
        | (go_at_call 26; refine (HRF.out w3 HB3.out).mono ?_; rintro e w4 ⟨hb4, A4, c4, rfl, hp4⟩; have HB4 := hide (HB3.out.trans (hb4.mono HB3.out.size)); have I4 := hide (I3.out.below hb4); have HP4 := hide hp4; have HE4 : Hid (FltQ w4 p .nilIface (0, none)) := hide (.inl ⟨rfl, rfl⟩); clear hb4 hp4)
        | (go_at_call 27; refine (HSM.out _ _ (balloc HB4.out _) (HE4.out.below (balloc (Below.refl _ _) _))).mono ?_; rintro e w5 ⟨rfl, hb5⟩; have f5 : w5.cell? ⟨w4.heap.size, 0, none⟩ = some (.int .i64 0) := (hb5.cell (p := ⟨w4.heap.size, 0, none⟩) (by simp)).trans (by rw [World.cell?_alloc_mark]; rfl); have HB5 := hide ((balloc HB4.out _).trans (hb5.mono (by have := HB4.out.size; simp; omega))); have I5 := hide (I4.out.below ((balloc (Below.refl _ _) _).trans (hb5.mono (by simp)))); have HP5 := hide (HP4.out.below ((balloc (Below.refl _ _) _).trans (hb5.mono (by simp)))); clear hb5)
        | fail)
      go_ret
      exact ⟨rfl, HBh.out⟩
  · have dq : ((qc : Int) != 0) = true := by simp; exact hqc
    have HRA : Hid (∀ V, Below w.heap.size w V → Calls Tryd.prog 25 #[.slice A1 n1 c1] V fun e w' => Below V.heap.size V w' ∧ ∃ E, e = .returned (.tuple #[.pointer none, E]) ∧ FltQ w' p E (qc, qp)) := hide fun V hb => (HRD.out V hb).mono fun e w' h => by
      obtain ⟨hb', ⟨-, E, h1, h2⟩ | ⟨h1, -⟩⟩ := h
      · exact ⟨hb', E, h1, h2⟩
      · exact absurd (congrArg Prod.fst h1) hqc
    clear HRD HCN
    cases hbad : Ep.bad l with
    | some j =>
      have HNW : Hid (∀ V, Below w.heap.size w V → Calls Tryd.prog 11 #[.slice A0 n0 c0] V fun e w' => e = .returned (.tuple #[.pointer none, .iface 123 (.pointer (some (p j)))]) ∧ Below V.heap.size V w') := hide fun V hb => epNew_bad A0 c0 n0 j l V p HN0.out (HS3.out.below hb) (HA0.out.at_.below hb) HA0.out.nil hbad
      have kj := fun W => eql_nil (p j) W
      unfold errV at kj
      clear hbad
      go_enter Tryd.func4, Tryd.ntmps4
      go_wp2_with (first
        | (go_at_call 11; refine (HNW.out _ HBN.out).mono ?_; rintro e wa ⟨rfl, hba⟩; have HBa := hide (HBN.out.trans (hba.mono HBN.out.size)); clear hba)
        | (go_at_call 10; refine HF.out.mono ?_; rintro e w2 ⟨rfl, hb2⟩; have HB2 := hide hb2; clear hb2)
        | (go_at_call 25; refine (HRA.out w2 HB2.out).mono ?_; rintro e w3 ⟨hb3, E, rfl, hE⟩; have HB3 := hide (HB2.out.trans (hb3.mono HB2.out.size)); have HE3 := hide hE; clear hb3 hE)
        | (go_at_call 26; refine (HRF.out w3 HB3.out).mono ?_; rintro e w4 ⟨hb4, A4, c4, rfl, -⟩; have HB4 := hide (HB3.out.trans (hb4.mono HB3.out.size)); have HE4 := hide (HE3.out.below hb4); clear hb4)
        | (go_at_call 27; refine (HSM.out _ _ (balloc HB4.out _) (HE4.out.below (balloc (Below.refl _ _) _))).mono ?_; rintro e w5 ⟨rfl, hb5⟩; have f5 : w5.cell? ⟨w4.heap.size, 0, none⟩ = some (.int .i64 qc) := (hb5.cell (p := ⟨w4.heap.size, 0, none⟩) (by simp)).trans (by rw [World.cell?_alloc_mark]; rfl); have HB5 := hide ((balloc HB4.out _).trans (hb5.mono (by have := HB4.out.size; simp; omega))); have HBN := hide ((balloc HB4.out _).trans (hb5.mono (by have := HB4.out.size; simp; omega))); clear hb5)
        | fail)
      go_ret
      exact ⟨rfl, HBa.out⟩
    | none =>
      have hok := Ep.bad_none.1 hbad
      have HNW : Hid (∀ V, Below w.heap.size w V → Calls Tryd.prog 11 #[.slice A0 n0 c0] V fun e w' => ∃ X, e = .returned (.tuple #[.pointer (some ⟨X, 0, none⟩), .nilIface]) ∧ Lns w [(X, l)] [] w') := hide fun V hb => by
        refine (epNew_ok A0 c0 n0 l V p HN0.out (HS3.out.below hb) (HA0.out.at_.below hb) HA0.out.nil hok).mono ?_
        rintro e w' ⟨X, rfl, hx, hb'⟩
        exact ⟨X, rfl, (Lns.nil hb).add hb' hx hok⟩
      obtain ⟨B, hB⟩ : ∃ B, B = Vi.pairsB l := ⟨_, rfl⟩
      have hBl : B.length ≤ 6100 := by
        have h1 := Vi.pairsB_flat l hok.right
        have h2 := Vi.size_le10 (n := l.length) (by have := HN0.out; omega)
        rw [hB]
        unfold Vi.pairsB
        unfold Vi.size at h2
        rw [List.length_append]
        have := HN0.out
        omega
      have HRB := hide (Vi.readP_pairsB hok)
      rw [← hB] at HRB
      have HBX : Hid (∀ V X, Lns w [(X, l)] [] V ∨ (∃ Z, Lns w [(X, l), (Z, l)] [] V) → Calls Tryd.prog 29 #[.pointer (some ⟨X, 0, none⟩)] V fun e w' => ∃ A c, e = .returned (.slice A B.length c) ∧ Arg w' A c B ∧ Below V.heap.size V w') := hide fun V X hV => by
        obtain ⟨S, hS, hok⟩ : ∃ S, EpAt V X l S ∧ Ep.Ok l := by
          rcases hV with h | ⟨Z, h⟩
          · exact h.get (i := 0) rfl
          · exact h.get (i := 0) rfl
        refine (epBytes_any X _ S V hS hok).mono ?_
        rintro e w' ⟨v, rfl, ho, hb⟩
        rw [← hB] at ho
        obtain ⟨A', c', rfl, ha⟩ := own_len ho rfl
        exact ⟨A', c', rfl, ha, hb⟩
      have HRZ : Hid (∀ V X A c, Lns w [(X, l)] [] V → Arg V A c B → Calls Tryd.prog 25 #[.slice A B.length c] V fun e w' => ∃ Z, e = .returned (.tuple #[.pointer (some ⟨Z, 0, none⟩), .nilIface]) ∧ Lns w [(X, l), (Z, l)] [] w') := hide fun V X A c hV ha => by
        refine (epRead_any A c B.length B V p (HSQ.out.below hV.bel) rfl (by omega) ha).mono ?_
        rintro e w' ⟨hb, ⟨h1, -⟩ | ⟨-, -, Y, rfl, hy⟩⟩
        · rw [HRB.out] at h1; exact absurd rfl h1
        · rw [HRB.out] at hy
          exact ⟨Y, rfl, hV.add hb hy hok⟩
      have HPZ : Hid (∀ V X Z, Lns w [(X, l), (Z, l)] [] V → Calls Tryd.prog 16 #[.pointer (some ⟨Z, 0, none⟩)] V fun e w' => ∃ A c, e = .returned (.slice A n0 c) ∧ PrAt w' A c l ∧ Below V.heap.size V w') := hide fun V X Z hV => by
        obtain ⟨S, hS, hok⟩ := hV.get (i := 1) rfl
        refine (epPairs_any Z l S V (by have := hok.len; omega) hS).mono ?_
        rintro e w' ⟨v, rfl, hv, hb⟩
        obtain ⟨A, c, rfl, hp, -⟩ := pairs_at hv
        exact ⟨A, c, by rw [HN0.out], hp, hb⟩
      have HPB : Hid (∀ V, Below w.heap.size w V → Calls Tryd.prog 30 #[.slice A0 n0 c0] V fun e w' => ∃ A c, e = .returned (.slice A B.length c) ∧ Arg w' A c B ∧ Below V.heap.size V w') := hide fun V hb => by
        have := refBytes_any A0 c0 l V (HA0.out.at_.below hb) hok
        rw [HN0.out] at this
        refine this.mono ?_
        rintro e w' ⟨v, rfl, ho, hb⟩
        rw [← hB] at ho
        obtain ⟨A', c', rfl, ha⟩ := own_len ho rfl
        exact ⟨A', c', rfl, ha, hb⟩
      have HBL := hide (show B.length ≤ 1000000 by omega)
      have HLL := hide (show n0 ≤ 1000000 by omega)
      clear hB hok hbad
      go_enter Tryd.func4, Tryd.ntmps4
      go_wp2_with (first
        | (go_at_call 28; have _t := HAg; refine (HSS.out wg B.length _ _ _ _ B rfl HBL.out HAf'.out HAg.out).mono ?_; rintro e wh ⟨rfl, hbh⟩; have HBh := hide (HBg.out.trans (hbh.mono HBg.out.size)); clear hbh)
        | (go_at_call 30; have _t := HAf; refine (HPB.out wf HBf.out).mono ?_; rintro e wg ⟨Ag, cg, rfl, hag, hbg⟩; have HAg := hide hag; have HAf' := hide (HAf.out.below hbg (Nat.le_refl _)); have HBg := hide (HBf.out.trans (hbg.mono HBf.out.size)); clear hag hbg HAf)
        | (go_at_call 29; have _t := HZe; have _t := Ie; refine (HBX.out _ _ (.inr ⟨_, Ie.out⟩)).mono ?_; rintro e wf ⟨Af, cf, rfl, haf, hbf⟩; have HAf := hide haf; have HBf := hide (Ie.out.bel.trans (hbf.mono Ie.out.bel.size)); clear haf hbf Ie)
        | (go_at_call 23; have _t := Id; refine (samePairs_eq Ad A0 cd c0 n0 l wd HN0.out HLL.out HPd.out (HA0.out.below Id.out.bel).at_).mono ?_; rintro e we ⟨rfl, hbe⟩; have Ie := hide (Lns.below Id.out hbe); have HZe := hide trivial; clear hbe Id)
        | (go_at_call 16; have _t := Ic; refine (HPZ.out _ _ _ Ic.out).mono ?_; rintro e wd ⟨Ad, cd, rfl, hpd, hbd⟩; have Id := hide (Ic.out.below hbd); have HPd := hide hpd; clear hpd hbd Ic)
        | (go_at_call 25; have _t := Ib; refine (HRZ.out _ _ _ _ Ib.out HAb.out).mono ?_; rintro e wc ⟨Z, rfl, hc⟩; have Ic := hide hc; clear hc Ib)
        | (go_at_call 29; have _t := Ia; refine (HBX.out _ _ (.inl Ia.out)).mono ?_; rintro e wb ⟨Ab, cb, rfl, hab, hbb⟩; have Ib := hide (Ia.out.below hbb); have HAb := hide hab; clear hab hbb Ia)
        | (go_at_call 11; refine (HNW.out _ HBN.out).mono ?_; rintro e wa ⟨X, rfl, ha⟩; have Ia := hide ha; clear ha HBN)
        | (go_at_call 10; refine HF.out.mono ?_; rintro e w2 ⟨rfl, hb2⟩; have HB2 := hide hb2; clear hb2)
        | (go_at_call 25; refine (HRA.out w2 HB2.out).mono ?_; rintro e w3 ⟨hb3, E, rfl, hE⟩; have HB3 := hide (HB2.out.trans (hb3.mono HB2.out.size)); have HE3 := hide hE; clear hb3 hE)
        | (go_at_call 26; refine (HRF.out w3 HB3.out).mono ?_; rintro e w4 ⟨hb4, A4, c4, rfl, -⟩; have HB4 := hide (HB3.out.trans (hb4.mono HB3.out.size)); have HE4 := hide (HE3.out.below hb4); clear hb4)
        | (go_at_call 27; refine (HSM.out _ _ (balloc HB4.out _) (HE4.out.below (balloc (Below.refl _ _) _))).mono ?_; rintro e w5 ⟨rfl, hb5⟩; have f5 : w5.cell? ⟨w4.heap.size, 0, none⟩ = some (.int .i64 qc) := (hb5.cell (p := ⟨w4.heap.size, 0, none⟩) (by simp)).trans (by rw [World.cell?_alloc_mark]; rfl); have HB5 := hide ((balloc HB4.out _).trans (hb5.mono (by have := HB4.out.size; simp; omega))); have HBN := hide ((balloc HB4.out _).trans (hb5.mono (by have := HB4.out.size; simp; omega))); clear hb5)
        | fail)
      go_ret
      exact ⟨rfl, HBh.out⟩
end Go.Proofs.YtplpakdbahlgaaaDoor

namespace Go.Proofs.YtplpakdbahlgaaaDoor.BytesLaw9
open Go.Proofs.YtplpakdbahlgaaaDoor
open Go.RowKit Go.ChangeShapes Go.WideShapes Go.ChangeAt

set_option maxRecDepth 100000 in
theorem lifted (os : Os) (started : os.Started) (H : Type) (enc : TypeId × Value → H) :
    ReturnsInHanded {} Tryd.checked os 4 .any (fun w args => (Rows.epochBytesSpec.pre enc Tryd.prog Tryd.f4 [] false w args ∧ laidMetH Tryd.prog laidErr w) ∧ sizedMet enc Tryd.prog Tryd.f4 (OpenSpec.ofChange Rows.epochBytesSpec) false w args)
      (Rows.epochBytesSpec.post enc Tryd.prog Tryd.f4 false true false false) := by
  refine returnsInHanded_of_change_and (C := Tryd.checked) (X := fun w _ => laidMetH Tryd.prog laidErr w) (fun _ _ _ hh h => h.of_heap hh) own started (by kernel_rfl) Tryd.func4
    (ChangeSpec.witness_shaped (enc := enc) (C := Tryd.checked) (os := os) (X := fun w _ => laidMetH Tryd.prog laidErr w) false (World.doorLaid Tryd.prog 400 os) #[.slice none 0 0, .slice none 0 0] 8 rfl (World.shaped_of_RefB (by kernel_rfl) (by kernel_rfl)) (by kernel_rfl) (by kernel_rfl) (by kernel_rfl) (door_met_err os _)) ?_
  intro W base args ds gs before hval0 hW _ _ hL _
  have hval : ∀ (j : Nat) t v, Tryd.f4.params[j]? = some t → args[j]? = some v → Value.okWide Tryd.prog W .any base t v := hval0
  have hW' := hW
  obtain ⟨p, q, hA0, hV, rfl, hfz, hnd⟩ := hW
  have hA : DataW.TrodAll enc Tryd.prog W 0 (fun _ => true) true Tryd.f4.params.toList args.toList ds p := hA0
  rw [Tryd.params4] at hA hval
  obtain ⟨v0, vs0, d0, ds0, p0, q0, hargs, rfl, rfl, h0, r0⟩ := trodAll_cons hA
  obtain ⟨v1, vs1, d1, ds1, p1, q1, rfl, rfl, rfl, h1, r1⟩ := trodAll_cons r0
  obtain ⟨rfl, rfl, rfl⟩ := trodAll_nil r1
  obtain rfl : args = #[v0, v1] := by cases args; simp_all
  obtain ⟨rfl, rfl⟩ := trodVars_none hV
  obtain ⟨a0, len0, cap0, rfl⟩ := okWide_slice Tryd.underlying22 (hval 0 22 v0 rfl rfl)
  have k0 := h0
  have lt0 : ∀ x ∈ p0, x.block < W.heap.size := by obtain ⟨m, hm⟩ := k0; exact DataW.trod_lt m _ _ _ hm
  obtain ⟨l0, rfl, pa0⟩ := pairs_of h0
  obtain ⟨a1, len1, cap1, rfl⟩ := okWide_slice Tryd.underlying45 (hval 1 45 v1 rfl rfl)
  have k1 := h1
  have lt1 : ∀ x ∈ p1, x.block < W.heap.size := by obtain ⟨m, hm⟩ := k1; exact DataW.trod_lt m _ _ _ hm
  obtain ⟨l1, rfl, w1⟩ := arg_of h1
  clear hA0 hval0
  obtain ⟨ps, hsent⟩ := sents_of_err hL
  refine (bytes9_any W ps hsent a0 a1 cap0 cap1 l0.length l1.length l0 l1 rfl rfl pa0 w1).mono fun e W' ⟨he, bel⟩ => ?_
  subst he
  exact ⟨_, rfl, _, _, _, [], _, [], hW', trodAll_mk1 (shut_bool Tryd.underlying4 _), (trodAll_cons_mk (Below.trod laidOut (by kernel_rfl) (of_decide_eq_true (by kernel_rfl)) k0 bel lt0) (trodAll_cons_mk (Below.trod laidOut (by kernel_rfl) (of_decide_eq_true (by kernel_rfl)) k1 bel lt1) trodAll_mk0)), rfl, bel.frame _, fun h => by cases h⟩

theorem row : Rows.EpochBytesSaid :=
  OpenClaim.holds_of_wide 4 Tryd.f4 rfl rfl rfl rfl rfl rfl rfl ⟨rfl, rfl, rfl, rfl, rfl⟩ rfl rfl rfl rfl rfl (by kernel_rfl) Tryd.func4 (by kernel_rfl)
    (of_decide_eq_true (by kernel_rfl)) (by unfold Func.isWrapper; first | (rw [if_pos (by decide +kernel)]; kernel_rfl) | (rw [if_neg (by decide +kernel)]; exact ⟨rfl, rfl⟩))
    (fun os started H enc _ => lifted os started H enc)

theorem proved : Rows.EpochBytesCardSaid :=
  Claim7.holds_tied_plain_at .later [] _ true _ true
    row (fun _ h => by cases h) (by kernel_rfl) (fun _ h => by cases h) epochBytes_row_tie rfl ⟨rfl, rfl⟩ (by kernel_rfl) rfl
    (fun f fn hf hfn => by
      obtain rfl : f = 4 := Option.some.inj ((show Tryd.prog.funcNamed "cordwood/cordwoodlaw9.EpochBytes" = some 4 by kernel_rfl).symm.trans hf) |>.symm
      obtain rfl : fn = Tryd.f4 := (Option.some.inj (Tryd.func4.symm.trans hfn)).symm
      exact ⟨by kernel_rfl, fun j t ht => by
        rw [Tryd.params4] at ht
        have hm : t ∈ [22, 45] := by simpa using Array.mem_of_getElem? ht
        have hall : ([22, 45].all fun u => !Tryd.prog.wantsStandIn u) = true := by kernel_rfl
        exact (show Tryd.prog.wantsStandIn t = false by simpa using List.all_eq_true.1 hall t hm)⟩)
    (by kernel_rfl)
end Go.Proofs.YtplpakdbahlgaaaDoor.BytesLaw9
