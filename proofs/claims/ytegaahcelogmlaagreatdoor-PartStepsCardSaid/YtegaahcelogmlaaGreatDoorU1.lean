/-
  A client of a store, plainly: a call asked again.
  A client of a store, plainly: how often it asks by what the script says.
  A client of a store, plainly: one outcome, so many times over.
  A client of a store, plainly: what is done but once; what only reads.
  A client's again: a call asked until it is answered, or no try is left.
  A client beside its store: what a call asked again tells and leaves.
  A client's New, Asked, Put.
-/
import Derived.Test.YtegaahcelogmlaaGreatDoorT3
import Derived.Test.YtegaahcelogmlaaGreatDoorT4
import Derived.LoopTactic
import Derived.Deep.LoopGhost
import Derived.WalkMore
namespace Go.Proofs.YtegaahcelogmlaaGreatDoor.St

/-- What comes of asking again: the answer, how often it was asked, what is then. -/
structure Ag (σ : Type) where
  r : Option Nat
  k : Nat
  st : σ
def agn {σ : Type} (f : σ → Option Nat × σ) : Nat → Option Nat → σ → Ag σ
  | 0, last, s => ⟨last, 0, s⟩
  | n + 1, _, s => if (f s).1 = some 10 then ⟨(agn f n (some 10) (f s).2).r, (agn f n (some 10) (f s).2).k + 1, (agn f n (some 10) (f s).2).st⟩ else ⟨(f s).1, 1, (f s).2⟩
/-- Asked so many times at most. -/
abbrev again {σ : Type} (f : σ → Option Nat × σ) (n : Nat) (s : σ) : Ag σ := agn f n none s
theorem agn_more {σ : Type} {f : σ → Option Nat × σ} {n : Nat} {last : Option Nat} {s : σ} (h : (f s).1 = some 10) : agn f (n + 1) last s = ⟨(agn f n (some 10) (f s).2).r, (agn f n (some 10) (f s).2).k + 1, (agn f n (some 10) (f s).2).st⟩ := by
  simp [agn, h]
theorem agn_stop {σ : Type} {f : σ → Option Nat × σ} {n : Nat} {last : Option Nat} {s : σ} (h : (f s).1 ≠ some 10) : agn f (n + 1) last s = ⟨(f s).1, 1, (f s).2⟩ := by
  simp [agn, h]
theorem agn_le {σ : Type} (f : σ → Option Nat × σ) : ∀ n last s, (agn f n last s).k ≤ n
  | 0, _, _ => Nat.le_refl _
  | n + 1, last, s => by
    by_cases h : (f s).1 = some 10
    · rw [agn_more h]; have := agn_le f n (some 10) (f s).2; simp only; omega
    · rw [agn_stop h]; simp
/-- It was not answered at some try. -/
def Ag.doubt {σ : Type} (a : Ag σ) : Bool := decide (1 < a.k) || (a.r == some 10)
/-- Where so many asks are behind, all of them not answered. -/
structure Gone {σ : Type} (f : σ → Option Nat × σ) (n : Nat) (s : σ) (j : Nat) (sj : σ) : Prop where
  le : j ≤ n
  r : (again f n s).r = (agn f (n - j) (if j = 0 then none else some 10) sj).r
  k : (again f n s).k = (agn f (n - j) (if j = 0 then none else some 10) sj).k + j
  st : (again f n s).st = (agn f (n - j) (if j = 0 then none else some 10) sj).st
theorem Gone.start {σ : Type} (f : σ → Option Nat × σ) (n : Nat) (s : σ) : Gone f n s 0 s := ⟨Nat.zero_le _, rfl, rfl, rfl⟩
theorem Gone.more {σ : Type} {f : σ → Option Nat × σ} {n j : Nat} {s sj : σ} (h : Gone f n s j sj) (hj : j < n) (hr : (f sj).1 = some 10) : Gone f n s (j + 1) (f sj).2 := by
  obtain ⟨m, hm⟩ : ∃ m, n - j = m + 1 := ⟨n - j - 1, by omega⟩
  have hm2 : n - (j + 1) = m := by omega
  obtain ⟨h0, h1, h2, h3⟩ := h
  rw [hm, agn_more hr] at h1 h2 h3
  refine ⟨by omega, ?_, ?_, ?_⟩
  · rw [h1, hm2]; simp
  · rw [h2, hm2]; simp; omega
  · rw [h3, hm2]; simp
theorem Gone.stop {σ : Type} {f : σ → Option Nat × σ} {n j : Nat} {s sj : σ} (h : Gone f n s j sj) (hj : j < n) (hr : (f sj).1 ≠ some 10) : (again f n s).r = (f sj).1 ∧ (again f n s).k = j + 1 ∧ (again f n s).st = (f sj).2 ∧ (again f n s).doubt = decide (0 < j) := by
  obtain ⟨m, hm⟩ : ∃ m, n - j = m + 1 := ⟨n - j - 1, by omega⟩
  obtain ⟨h0, h1, h2, h3⟩ := h
  rw [hm, agn_stop hr] at h1 h2 h3
  refine ⟨h1, by rw [h2]; simp; omega, h3, ?_⟩
  unfold Ag.doubt
  rw [h1, h2]
  have : ((f sj).1 == some 10) = false := by simpa using hr
  simp only [this, Bool.or_false]
  by_cases hz : 0 < j
  · simp [hz]
  · simp [hz]
theorem Gone.done {σ : Type} {f : σ → Option Nat × σ} {n : Nat} {s sj : σ} (h : Gone f n s n sj) (hn : 0 < n) : (again f n s).r = some 10 ∧ (again f n s).k = n ∧ (again f n s).st = sj ∧ (again f n s).doubt = true := by
  obtain ⟨h0, h1, h2, h3⟩ := h
  rw [Nat.sub_self, if_neg (by omega)] at h1 h2 h3
  refine ⟨h1, by rw [h2]; simp [agn], h3, ?_⟩
  unfold Ag.doubt
  rw [h1]
  simp [agn]
/-- A call that tells an error alone; one that tells something besides. -/
def bareOf (g : S → (Unit × Option Nat) × S) (s : S) : Option Nat × S := ((g s).1.2, (g s).2)
def askOf {α : Type} (g : S → (α × Option Nat) × S) (x : S × α) : Option Nat × (S × α) := ((g x.1).1.2, ((g x.1).2, (g x.1).1.1))
end Go.Proofs.YtegaahcelogmlaaGreatDoor.St

namespace Go.Proofs.YtegaahcelogmlaaGreatDoor.St

/-- An outcome that is told as ErrStore. -/
abbrev BadO (z : Int) : Prop := z = 1 ∨ z = 2
/-- What may be done leaves the script and the numbers of calls, and tells no ErrStore. -/
structure Mild {α : Type} (g : S → (α × Option Nat) × S) : Prop where
  script : ∀ t, (g t).2.script = t.script
  calls : ∀ t, (g t).2.calls = t.calls
  r : ∀ t, (g t).1.2 ≠ some 10
theorem ask_mild {α : Type} {g : S → (α × Option Nat) × S} (h : Mild g) (s : S) (z : α) : ((s.ask z g).1.2 = some 10 ↔ BadO s.out) ∧ (s.ask z g).2.script = s.script.drop 1 ∧ (s.ask z g).2.calls = s.calls + 1 := by
  unfold S.ask BadO
  by_cases h1 : s.out = 1
  · rw [if_pos h1]; exact ⟨by simp [h1], rfl, rfl⟩
  · rw [if_neg h1]
    by_cases h2 : s.out = 2
    · rw [if_pos h2]; exact ⟨by simp [h2], h.script _, h.calls _⟩
    · rw [if_neg h2]
      refine ⟨?_, h.script _, h.calls _⟩
      have := h.r s.took
      simp [h1, h2, this]
/-- So many outcomes at the script's beginning are bad, n at most. -/
def lead : Nat → List Int → Nat
  | 0, _ => 0
  | _ + 1, [] => 0
  | n + 1, z :: l => if BadO z then lead n l + 1 else 0
theorem lead_le : ∀ n l, lead n l ≤ n
  | 0, _ => Nat.le_refl _
  | _ + 1, [] => Nat.zero_le _
  | n + 1, z :: l => by have := lead_le n l; simp only [lead]; split <;> omega
theorem lead_step (n : Nat) (l : List Int) : lead (n + 1) l = if BadO (l.headD 0) then lead n (l.drop 1) + 1 else 0 := by
  cases l with
  | nil => simp [lead, BadO]
  | cons z l => simp [lead]
/-- What is asked, as a state with a script and a number of calls. -/
structure Asks {σ : Type} (f : σ → Option Nat × σ) (sc : σ → List Int) (ca : σ → Int) : Prop where
  r : ∀ s, (f s).1 = some 10 ↔ BadO ((sc s).headD 0)
  script : ∀ s, sc (f s).2 = (sc s).drop 1
  calls : ∀ s, ca (f s).2 = ca s + 1
theorem asks_bare {g : S → (Unit × Option Nat) × S} (h : Mild g) : Asks (bareOf fun s => s.ask () g) S.script S.calls :=
  ⟨fun s => (ask_mild h s ()).1, fun s => (ask_mild h s ()).2.1, fun s => (ask_mild h s ()).2.2⟩
theorem asks_of {α : Type} (z : α) {g : S → (α × Option Nat) × S} (h : Mild g) : Asks (askOf fun s => s.ask z g) (fun x => x.1.script) (fun x => x.1.calls) :=
  ⟨fun s => (ask_mild h s.1 z).1, fun s => (ask_mild h s.1 z).2.1, fun s => (ask_mild h s.1 z).2.2⟩
theorem agn_lead {σ : Type} {f : σ → Option Nat × σ} {sc : σ → List Int} {ca : σ → Int} (h : Asks f sc ca) : ∀ (n : Nat) (last : Option Nat) (s : σ),
    (agn f n last s).k = (if lead n (sc s) = n then n else lead n (sc s) + 1) ∧ sc (agn f n last s).st = (sc s).drop (agn f n last s).k ∧ ca (agn f n last s).st = ca s + (agn f n last s).k ∧ (0 < n ∨ last = some 10 → ((agn f n last s).r = some 10 ↔ lead n (sc s) = n))
  | 0, last, s => by simp [agn, lead]
  | n + 1, last, s => by
    obtain ⟨h1, h2, h3, h4⟩ := agn_lead h n (some 10) (f s).2
    have hl := lead_step n (sc s)
    by_cases hr : (f s).1 = some 10
    · rw [agn_more hr, hl, if_pos ((h.r s).1 hr), ← h.script s]
      refine ⟨?_, ?_, ?_, fun _ => ?_⟩
      · simp only [h1]; split <;> split <;> omega
      · simp only
        rw [h2, h.script s, List.drop_drop, Nat.add_comm]
      · simp only [h3, h.calls s]; omega
      · simp only
        rw [h4 (.inr rfl)]; omega
    · rw [agn_stop hr, hl, if_neg (fun hb => hr ((h.r s).2 hb))]
      refine ⟨by simp, h.script s, h.calls s, fun _ => ?_⟩
      simp only
      constructor
      · intro e; exact absurd e hr
      · intro e; omega
theorem lead_rep (z : Int) (hz : BadO z) : ∀ n m, lead n (List.replicate m z) = min n m
  | 0, m => by simp [lead]
  | n + 1, 0 => by simp [lead]
  | n + 1, m + 1 => by simp only [List.replicate_succ, lead, if_pos hz, lead_rep z hz n m]; omega

theorem put_mild (k : Nm) (b : List UInt8) : Mild (S.putF k b) := ⟨fun t => by unfold S.putF; split <;> rfl, fun t => by unfold S.putF; split <;> rfl, fun t => by unfold S.putF; split <;> simp⟩
theorem start_mild (k : Nm) : Mild (S.startF k) := ⟨fun t => by unfold S.startF; split <;> rfl, fun t => by unfold S.startF; split <;> rfl, fun t => by unfold S.startF; split <;> simp⟩
theorem get_mild (k : Nm) (off n : Int) : Mild (S.getF k off n) := ⟨fun t => by unfold S.getF; split; rfl; split <;> rfl, fun t => by unfold S.getF; split; rfl; split <;> rfl, fun t => by unfold S.getF; split; simp; split <;> simp⟩
theorem head_mild (k : Nm) : Mild (S.headF k) := ⟨fun t => by unfold S.headF; split <;> rfl, fun t => by unfold S.headF; split <;> rfl, fun t => by unfold S.headF; split <;> simp⟩
theorem del_mild (k : Nm) : Mild (S.delF k) := ⟨fun t => by unfold S.delF; split <;> rfl, fun t => by unfold S.delF; split <;> rfl, fun t => by unfold S.delF; split <;> simp⟩
theorem part_mild (id n : Int) (b : List UInt8) : Mild (S.partF id n b) := ⟨fun t => by unfold S.partF; split; rfl; split <;> rfl, fun t => by unfold S.partF; split; rfl; split <;> rfl, fun t => by unfold S.partF; split; simp; split <;> simp⟩
theorem comp_mild (id n : Int) : Mild (S.compF id n) := ⟨fun t => by unfold S.compF; split; rfl; split; rfl; split <;> rfl, fun t => by unfold S.compF; split; rfl; split; rfl; split <;> rfl, fun t => by unfold S.compF; split; simp; split; simp; split <;> simp⟩
theorem abort_mild (id : Int) : Mild (S.abortF id) := ⟨fun t => by unfold S.abortF; split <;> rfl, fun t => by unfold S.abortF; split <;> rfl, fun t => by unfold S.abortF; split <;> simp⟩
end Go.Proofs.YtegaahcelogmlaaGreatDoor.St

namespace Go.Proofs.YtegaahcelogmlaaGreatDoor.St

theorem out_rep {s : S} {m : Nat} {o : Int} (h : s.script = List.replicate (m + 1) o) : s.out = o := by simp [S.out, h, List.replicate_succ]
theorem out_nil {s : S} {o : Int} (h : s.script = List.replicate 0 o) : s.out = 0 := by simp [S.out, h]
theorem took_rep {s : S} {m : Nat} {o : Int} (h : s.script = List.replicate (m + 1) o) : s.took.script = List.replicate m o := by simp [S.took, h, List.replicate_succ]

theorem put_rep (k : Nm) (hk : Dk.valid k = true) (b : List UInt8) (o : Int) (ho : BadO o) : ∀ (n m : Nat) (last : Option Nat) (s : S), s.script = List.replicate m o →
    (m < n → (agn (bareOf fun s => s.ask () (S.putF k b)) n last s).r = none) ∧ (n ≤ m → 0 < n ∨ last = some 10 → (agn (bareOf fun s => s.ask () (S.putF k b)) n last s).r = some 10) ∧
      (agn (bareOf fun s => s.ask () (S.putF k b)) n last s).st.objs k = if m < n ∨ (o = 2 ∧ 0 < n) then some b else s.objs k
  | 0, m, last, s, h => ⟨fun h => absurd h (Nat.not_lt_zero _), fun _ h => by rcases h with h | h; exact absurd h (Nat.lt_irrefl _); exact h, by simp [agn]⟩
  | n + 1, 0, last, s, h => by
    have e := out_nil h
    have e2 : bareOf (fun s => s.ask () (S.putF k b)) s = (none, { s.took with objs := upd s.took.objs k (some b) }) := by
      simp [bareOf, S.ask, e, S.putF, hk]
    rw [agn_stop (by rw [e2]; simp), e2]
    refine ⟨fun _ => rfl, fun h => by omega, ?_⟩
    simp [upd]
  | n + 1, m + 1, last, s, h => by
    have e := out_rep h
    have et := took_rep h
    have e2 : bareOf (fun s => s.ask () (S.putF k b)) s = (some 10, if o = 2 then { s.took with objs := upd s.took.objs k (some b) } else s.took) := by
      rcases ho with ho | ho <;> subst ho <;> simp [bareOf, S.ask, e, S.putF, hk]
    rw [agn_more (by rw [e2]), e2]
    simp only
    obtain ⟨h1, h2, h3⟩ := put_rep k hk b o ho n m (some 10) (if o = 2 then { s.took with objs := upd s.took.objs k (some b) } else s.took) (by split <;> exact et)
    refine ⟨fun hl => h1 (by omega), fun hl _ => h2 (by omega) (.inr rfl), ?_⟩
    rw [h3]
    have hto : s.took.objs = s.objs := rfl
    by_cases hmn : m < n
    · simp [hmn]
    · by_cases ho2 : o = 2
      · simp [ho2, upd]
      · simp [hmn, ho2, hto]

theorem start_rep (k : Nm) (hk : Dk.valid k = true) : ∀ (n m : Nat) (last : Option Nat) (x : S × Int), x.1.script = List.replicate m 2 →
    (m < n → (agn (askOf fun s => s.ask 0 (S.startF k)) n last x).r = none ∧ (agn (askOf fun s => s.ask 0 (S.startF k)) n last x).st.2 = x.1.last + m + 1 ∧ (agn (askOf fun s => s.ask 0 (S.startF k)) n last x).st.1.last = x.1.last + m + 1) ∧
      (n ≤ m → 0 < n ∨ (last = some 10 ∧ x.2 = 0) → (agn (askOf fun s => s.ask 0 (S.startF k)) n last x).r = some 10 ∧ (agn (askOf fun s => s.ask 0 (S.startF k)) n last x).st.2 = 0 ∧ (agn (askOf fun s => s.ask 0 (S.startF k)) n last x).st.1.last = x.1.last + n) ∧
      (∀ i, (agn (askOf fun s => s.ask 0 (S.startF k)) n last x).st.1.ups i ≠ none ↔ x.1.ups i ≠ none ∨ (x.1.last < i ∧ i ≤ (agn (askOf fun s => s.ask 0 (S.startF k)) n last x).st.1.last)) ∧ x.1.last ≤ (agn (askOf fun s => s.ask 0 (S.startF k)) n last x).st.1.last
  | 0, m, last, x, h => ⟨fun h => absurd h (Nat.not_lt_zero _), fun _ h => by rcases h with h | h; exact absurd h (Nat.lt_irrefl _); exact ⟨h.1, h.2, by simp [agn]⟩, fun i => by simp only [agn]; constructor; exact .inl; (rintro (h | h); exact h; omega), Int.le_refl _⟩
  | n + 1, 0, last, x, h => by
    have e := out_nil h
    have e2 : askOf (fun s => s.ask 0 (S.startF k)) x = (none, ({ x.1.took with last := x.1.took.last + 1, ups := upd x.1.took.ups (x.1.took.last + 1) (some ⟨k, fun _ => none⟩) }, x.1.took.last + 1)) := by
      simp [askOf, S.ask, e, S.startF, hk]
    rw [agn_stop (by rw [e2]; simp), e2]
    refine ⟨fun _ => ⟨rfl, by simp [S.took], by simp [S.took]⟩, fun h => by omega, fun i => ?_, by simp [S.took]; omega⟩
    have hto : x.1.took.last = x.1.last := rfl
    have hup : x.1.took.ups = x.1.ups := rfl
    simp only [hto, hup]
    by_cases hi : i = x.1.last + 1
    · subst hi
      simp only [upd, if_true]
      exact ⟨fun _ => .inr ⟨by omega, Int.le_refl _⟩, fun _ => by simp⟩
    · simp only [upd, if_neg hi]
      constructor
      · exact .inl
      · rintro (h | h)
        · exact h
        · omega
  | n + 1, m + 1, last, x, h => by
    have e := out_rep h
    have et := took_rep h
    have e2 : askOf (fun s => s.ask 0 (S.startF k)) x = (some 10, ({ x.1.took with last := x.1.took.last + 1, ups := upd x.1.took.ups (x.1.took.last + 1) (some ⟨k, fun _ => none⟩) }, 0)) := by
      simp [askOf, S.ask, e, S.startF, hk]
    rw [agn_more (by rw [e2]), e2]
    simp only
    obtain ⟨h1, h2, h3, h4⟩ := start_rep k hk n m (some 10) ({ x.1.took with last := x.1.took.last + 1, ups := upd x.1.took.ups (x.1.took.last + 1) (some ⟨k, fun _ => none⟩) }, 0) et
    have hto : x.1.took.last = x.1.last := rfl
    have hup : x.1.took.ups = x.1.ups := rfl
    simp only [hto, hup] at h1 h2 h3 h4 ⊢
    refine ⟨fun hl => ?_, fun hl _ => ?_, fun i => ?_, by omega⟩
    · obtain ⟨q1, q2, q3⟩ := h1 (by omega)
      exact ⟨q1, by rw [q2]; push_cast; omega, by rw [q3]; push_cast; omega⟩
    · obtain ⟨q1, q2, q3⟩ := h2 (by omega) (by simp)
      exact ⟨q1, q2, by rw [q3]; push_cast; omega⟩
    · rw [h3 i]
      generalize (agn (askOf fun s => s.ask 0 (S.startF k)) n (some 10) ({ x.1.took with last := x.1.last + 1, ups := upd x.1.ups (x.1.last + 1) (some ⟨k, fun _ => none⟩) }, 0)).st.1.last = y at *
      by_cases hi : i = x.1.last + 1
      · subst hi
        simp only [upd, if_true]
        constructor
        · intro _; exact .inr ⟨by omega, h4⟩
        · intro _; exact .inl (by simp)
      · simp only [upd, if_neg hi]
        constructor
        · rintro (h | h)
          · exact .inl h
          · exact .inr (by omega)
        · rintro (h | h)
          · exact .inl h
          · exact .inr (by omega)
end Go.Proofs.YtegaahcelogmlaaGreatDoor.St

namespace Go.Proofs.YtegaahcelogmlaaGreatDoor.St

section
variable {g : S → (Unit × Option Nat) × S} {P Q : S → Prop}
/-- What is no more there: it is told so, as often as it is asked. -/
theorem gone_rep (hm : Mild g) (hQt : ∀ t, Q t → Q t.took) (hg : ∀ t, Q t → (g t).1.2 = some 6 ∧ Q (g t).2) : ∀ (n m : Nat) (last : Option Nat) (s : S), Q s → s.script = List.replicate m 2 → m < n →
    (agn (bareOf fun s => s.ask () g) n last s).r = some 6 ∧ Q (agn (bareOf fun s => s.ask () g) n last s).st ∧ (agn (bareOf fun s => s.ask () g) n last s).st.script = [] ∧ (agn (bareOf fun s => s.ask () g) n last s).k = m + 1
  | 0, m, last, s, _, _, h => absurd h (Nat.not_lt_zero _)
  | n + 1, 0, last, s, hq, h, _ => by
    have e := out_nil h
    have e2 : bareOf (fun s => s.ask () g) s = ((g s.took).1.2, (g s.took).2) := by simp [bareOf, S.ask, e]
    obtain ⟨h1, h2⟩ := hg _ (hQt _ hq)
    rw [agn_stop (by rw [e2]; simp [h1]), e2]
    exact ⟨h1, h2, by simp [hm.script, S.took, h], rfl⟩
  | n + 1, m + 1, last, s, hq, h, hl => by
    have e := out_rep h
    have et := took_rep h
    have e2 : bareOf (fun s => s.ask () g) s = (some 10, (g s.took).2) := by simp [bareOf, S.ask, e]
    obtain ⟨h1, h2⟩ := hg _ (hQt _ hq)
    rw [agn_more (by rw [e2]), e2]
    obtain ⟨q1, q2, q3, q4⟩ := gone_rep hm hQt hg n m (some 10) (g s.took).2 h2 ((hm.script _).trans et) (by omega)
    exact ⟨q1, q2, q3, by simp only; omega⟩
/-- What is done at first, and gone behind it. -/
theorem once_rep (hm : Mild g) (hPt : ∀ t, P t → P t.took) (hQt : ∀ t, Q t → Q t.took) (hp : ∀ t, P t → (g t).1.2 = none ∧ Q (g t).2) (hg : ∀ t, Q t → (g t).1.2 = some 6 ∧ Q (g t).2) (n m : Nat) (last : Option Nat) (s : S) (hP : P s) (h : s.script = List.replicate m 2) (hl : m < n) :
    (agn (bareOf fun s => s.ask () g) n last s).r = (if m = 0 then none else some 6) ∧ Q (agn (bareOf fun s => s.ask () g) n last s).st ∧ (agn (bareOf fun s => s.ask () g) n last s).st.script = [] ∧ (agn (bareOf fun s => s.ask () g) n last s).k = m + 1 := by
  obtain ⟨n, rfl⟩ : ∃ n', n = n' + 1 := ⟨n - 1, by omega⟩
  obtain ⟨h1, h2⟩ := hp _ (hPt _ hP)
  cases m with
  | zero =>
    have e := out_nil h
    have e2 : bareOf (fun s => s.ask () g) s = ((g s.took).1.2, (g s.took).2) := by simp [bareOf, S.ask, e]
    rw [agn_stop (by rw [e2]; simp [h1]), e2]
    exact ⟨h1, h2, by simp [hm.script, S.took, h], rfl⟩
  | succ m =>
    have e := out_rep h
    have et := took_rep h
    have e2 : bareOf (fun s => s.ask () g) s = (some 10, (g s.took).2) := by simp [bareOf, S.ask, e]
    rw [agn_more (by rw [e2]), e2]
    obtain ⟨q1, q2, q3, q4⟩ := gone_rep hm hQt hg n m (some 10) (g s.took).2 h2 ((hm.script _).trans et) (by omega)
    exact ⟨by simpa using q1, q2, q3, by simp only; omega⟩
end
section
variable {α : Type} {g : S → (α × Option Nat) × S} {z : α} {I : S → Prop} {V : α → Prop}
/-- What only reads. -/
theorem read_again (hIt : ∀ t, I t → I t.took) (hg : ∀ t, I t → (g t).1.2 = none ∧ V (g t).1.1 ∧ I (g t).2) : ∀ (n : Nat) (last : Option Nat) (x : S × α), I x.1 → (0 < n ∨ last = some 10 ∧ x.2 = z) →
    I (agn (askOf fun s => s.ask z g) n last x).st.1 ∧ (((agn (askOf fun s => s.ask z g) n last x).r = none ∧ V (agn (askOf fun s => s.ask z g) n last x).st.2) ∨ ((agn (askOf fun s => s.ask z g) n last x).r = some 10 ∧ (agn (askOf fun s => s.ask z g) n last x).st.2 = z))
  | 0, last, x, hI, hl => by
    rcases hl with hl | hl
    · exact absurd hl (Nat.lt_irrefl _)
    · exact ⟨hI, .inr hl⟩
  | n + 1, last, x, hI, hl => by
    obtain ⟨h1, h2, h3⟩ := hg _ (hIt _ hI)
    by_cases e1 : x.1.out = 1
    · have e2 : askOf (fun s => s.ask z g) x = (some 10, (x.1.took, z)) := by simp [askOf, S.ask, e1]
      rw [agn_more (by rw [e2]), e2]
      exact read_again hIt hg n (some 10) (x.1.took, z) (hIt _ hI) (.inr ⟨rfl, rfl⟩)
    · by_cases e3 : x.1.out = 2
      · have e2 : askOf (fun s => s.ask z g) x = (some 10, ((g x.1.took).2, z)) := by simp [askOf, S.ask, e3]
        rw [agn_more (by rw [e2]), e2]
        exact read_again hIt hg n (some 10) ((g x.1.took).2, z) h3 (.inr ⟨rfl, rfl⟩)
      · have e2 : askOf (fun s => s.ask z g) x = ((g x.1.took).1.2, ((g x.1.took).2, (g x.1.took).1.1)) := by simp [askOf, S.ask, e1, e3]
        rw [agn_stop (by rw [e2]; simp [h1]), e2]
        exact ⟨h3, .inl ⟨h1, h2⟩⟩
end
end Go.Proofs.YtegaahcelogmlaaGreatDoor.St

namespace Go.Proofs.YtegaahcelogmlaaGreatDoor
open Go.RowKit Go.Maps

theorem nil_eql (a : Addr) (w : World) : (binOp .eql 30 .nilIface (errV a)).run Tryz.prog w = .ok (.bool false) w := by
  obtain ⟨ms, i, j, h1, h2, h3, h4, h5⟩ := es_facts
  have h : ∀ d : Nat, (Op.equalIn (d + 1) 30 .nilIface (errV a)).run Tryz.prog w = .ok false w := fun d => by simp [Op.equalIn, run_underlying h1, errV]
  simp only [binOp]
  simp [Op.equal, Op.maxDepth, h 9999]
def caCells (sb : Nat) (t a : Int) : Array Value := #[.pointer (some ⟨sb, 0, none⟩), .int .i64 t, .int .i64 a]

set_option maxRecDepth 100000 in
set_option maxHeartbeats 1000000 in
theorem again_any {E : Nat → Prop} (h10 : E 10) {σ : Type} {w0 w : World} {p : Nat → Addr} (hs : SentsOn E w0 p) (f : σ → Option Nat × σ) (cb sb t : Nat) (ht : 1 ≤ t ∧ t ≤ 8) (F : Nat) (caps : Array Value) (hE : Enters Tryz.prog F) (J M : Nat → σ → World → Prop) (a0 : Int) (ha : 0 ≤ a0 ∧ a0 ≤ 100000000)
    (hr : ∀ s j, (f s).1 = some j → E j)
    (hbox : ∀ j s W, J j s W → W.heap[cb]? = some (.cells (caCells sb t (a0 + j)) 53 (0, 0)) ∧ Below w0.heap.size w0 W)
    (hinc : ∀ j s W, j < t → J j s W → M j s (W.setCell ⟨cb, 2, none⟩ (.int .i64 (a0 + j + 1))))
    (hdo : ∀ j s W, j < t → M j s W → Calls Tryz.prog F caps W fun e W' => e = .returned (errR p (f s).1) ∧ J (j + 1) (f s).2 W')
    (s0 : σ) (h0 : J 0 s0 w) :
    Calls Tryz.prog 38 #[.pointer (some ⟨cb, 0, none⟩), .func (.func F) #[] caps] w fun e w' => e = .returned (.tuple #[.bool (St.again f t s0).doubt, errR p (St.again f t s0).r]) ∧ J (St.again f t s0).k (St.again f t s0).st w' := by
  have HS := hide hs
  have HR := hide hr
  have HBX := hide hbox
  have HIN := hide hinc
  have HDO := hide hdo
  have H0 := hide h0
  have HT := hide ht
  have H10 := hide h10
  have HA := hide ha
  have c1 : w.cell? ⟨cb, 1, none⟩ = some (.int .i64 t) := box_cell (hbox _ _ _ h0).1 1
  unfold Enters at hE
  clear hs hr hbox hinc hdo h0 ht ha h10
  go_enter Tryz.func38, Tryz.ntmps38
  go_wp2_with fail
  go_step3
  go_wp2_with fail
  go_step3
  go_wp2_with fail
  go_loopw [4, 5, 10] (fun d e i wr => ∃ (j : Nat) (sj : σ), i = .int .i64 j ∧ d = .bool (decide (0 < j)) ∧ e = errR p (if j = 0 then none else some 10) ∧ St.Gone f t s0 j sj ∧ J j sj wr) (fun _ _ i _ => t - (intOf i).toNat)
  case atStart => exact ⟨0, s0, rfl, rfl, rfl, St.Gone.start f t s0, H0.out⟩
  case round =>
    obtain ⟨j, sj, rfl, rfl, rfl, hg, hJ⟩ := hrel
    have hle := hg.le
    have HG := hide hg
    obtain ⟨hb, hbl⟩ := HBX.out _ _ _ hJ
    have HJ := hide hJ
    have ht8 := HT.out.2
    by_cases hlt : j < t
    · have c2 : wr.cell? ⟨cb, 2, none⟩ = some (.int .i64 (a0 + j)) := box_cell hb 2
      have f2 := box_free hb 2
      have hwr : IntKind.i64.wrap (a0 + (j : Int) + 1) = a0 + (j : Int) + 1 := IntWalk.i64_in _ (by have hq1 := HA.out.1; have hq2 := HA.out.2; have hq3 := HT.out.2; omega)
      have hM := HIN.out _ _ _ hlt hJ
      have HD := hide (HDO.out _ _ _ hlt hM)
      clear hg hJ hb hbl hM
      obtain ⟨aj, haj⟩ : ∃ x, x = a0 + (j : Int) := ⟨_, rfl⟩
      rw [← haj] at c2 hwr HD
      have HAJ := hide haj
      clear haj
      generalize hdv : decide (0 < j) = dv
      generalize hev : errR p (if j = 0 then none else some 10) = ev0
      have HDV := hide hdv
      clear hdv hev
      go_wp2_with fail
      refine HD.out.mono ?_
      rintro e w2 ⟨rfl, hJ2⟩
      obtain ⟨hb2, hbl2⟩ := HBX.out _ _ _ hJ2
      have HJ2 := hide hJ2
      have HS2 := hide (HS.out.below hbl2)
      have g10 : w2.cell? ⟨6, 0, none⟩ = some (errV (p 10)) := (HS.out.below hbl2).cell 10 H10.out
      clear hJ2 hb2 hbl2
      rcases hfr : (f sj).1 with _ | k
      · have hst := HG.out.stop hlt (by rw [hfr]; simp)
        rw [hfr] at hst
        have HST := hide hst
        have k1 := fun W => nil_eql (p 10) W
        clear hst hfr
        unfold errR errV at *
        go_wp2_with fail
        (try rw [Exit.noGoto_ret])
        go_returns
        rw [HST.out.1, HST.out.2.1, HST.out.2.2.1, HST.out.2.2.2, HDV.out]
        exact ⟨rfl, HJ2.out⟩
      · by_cases hk : k = 10
        · subst hk
          have HG2 := hide (HG.out.more hlt hfr)
          have k1 := fun W => eql_same (p 10) W
          clear hfr
          unfold errR errV at *
          go_wp2_with fail
          exact ⟨⟨j + 1, (f sj).2, by simp, by simp, by simp [errR, errV], HG2.out, HJ2.out⟩, by simp [intOf]; omega⟩
        · have hst := HG.out.stop hlt (by rw [hfr]; simpa using hk)
          have hk19 := HR.out _ _ hfr
          rw [hfr] at hst
          have HST := hide hst
          have k1 := eql_other (p k) (p 10) w2 (HS2.out.ne k 10 hk19 H10.out hk) (HS2.out.blk k hk19).2 (HS2.out.blk 10 H10.out).2
          clear hst hfr hk
          unfold errR errV at *
          go_wp2_with fail
          (try rw [Exit.noGoto_ret])
          go_returns
          rw [HST.out.1, HST.out.2.1, HST.out.2.2.1, HST.out.2.2.2, HDV.out]
          exact ⟨rfl, HJ2.out⟩
    · obtain rfl : j = t := by omega
      have hst := hg.done (by have := HT.out; omega)
      have HST := hide hst
      have h0j : 0 < j := by have := HT.out; omega
      have hd1 : decide (0 < j) = true := by simpa using h0j
      have hd2 : (if j = 0 then none else some 10) = (some 10 : Option Nat) := if_neg (by omega)
      rw [hd1, hd2]
      clear hg hJ hb hbl hst hd1 hd2
      unfold errR errV
      go_wp2_with fail
      (try rw [Exit.noGoto_ret])
      go_returns
      rw [HST.out.1, HST.out.2.1, HST.out.2.2.1, HST.out.2.2.2]
      exact ⟨rfl, HJ.out⟩
end Go.Proofs.YtegaahcelogmlaaGreatDoor

namespace Go.Proofs.YtegaahcelogmlaaGreatDoor
open Go.RowKit Go.Maps

/-- A client at its block cb, of a store under a walk. -/
structure CaS (w0 : World) (S D : Nat → Prop) (sb cb t : Nat) (a : Int) (s : St.S) (n : Nat) (w : World) : Prop where
  st : StS w0 S D sb s n w
  box : w.heap[cb]? = some (.cells (caCells sb t a) 53 (0, 0))
  nS : ¬ S cb
  nD : ¬ D cb
  lo : w0.heap.size ≤ cb
  asked : 0 ≤ a ∧ a ≤ n
/-- What a client's call leaves of all else: K are other blocks that it writes. -/
structure CaGo (S D K S' D' : Nat → Prop) (w w' : World) : Prop where
  chg : Chg (fun k => S k ∨ K k) w w'
  s : ∀ k, S' k → Up S w w' k
  d : ∀ k, D' k → Up D w w' k
theorem CaGo.refl (S D K : Nat → Prop) (w : World) : CaGo S D K S D w w := ⟨Chg.refl _ _, fun _ h => .inl h, fun _ h => .inl h⟩
theorem Up.trans {S T : Nat → Prop} {w w1 w2 : World} {k : Nat} (h1 : ∀ k, T k → Up S w w1 k) (h : Up T w1 w2 k) (hz : w.heap.size ≤ w1.heap.size) (hz2 : w1.heap.size ≤ w2.heap.size) : Up S w w2 k := by
  rcases h with h | h
  · rcases h1 k h with h | h
    · exact .inl h
    · exact .inr (by omega)
  · exact .inr (by omega)
theorem CaGo.trans {S D K S1 D1 S2 D2 : Nat → Prop} {w w1 w2 : World} (h : CaGo S D K S1 D1 w w1) (k : CaGo S1 D1 K S2 D2 w1 w2) : CaGo S D K S2 D2 w w2 := by
  have hz := h.chg.size
  have hz2 := k.chg.size
  refine ⟨⟨k.chg.os.trans h.chg.os, k.chg.tape.trans h.chg.tape, k.chg.output.trans h.chg.output, by omega, fun i hi hn => ?_⟩, fun i hi => Up.trans h.s (k.s i hi) hz hz2, fun i hi => Up.trans h.d (k.d i hi) hz hz2⟩
  rw [k.chg.block i (by omega) (fun hx => ?_), h.chg.block i hi hn]
  rcases hx with hx | hx
  · rcases h.s i hx with hx | hx
    · exact hn (.inl hx)
    · omega
  · exact hn (.inr hx)
theorem CaGo.of_st {S D K S' D' : Nat → Prop} {w w' : World} (h : StGo S D S' D' w w') : CaGo S D K S' D' w w' := ⟨h.chg.mono fun _ h => .inl h, h.s, h.d⟩
theorem CaGo.mono {S D K L S' D' : Nat → Prop} {w w' : World} (h : CaGo S D K S' D' w w') (hK : ∀ k, K k → L k) : CaGo S D L S' D' w w' := ⟨h.chg.mono fun _ h => h.imp_right (hK _), h.s, h.d⟩
/-- Blocks that are new are no matter to who stands ahead of them. -/
theorem CaGo.ahead {S D K L S' D' : Nat → Prop} {w w1 w' : World} (h : CaGo S D K S' D' w1 w') (hb : Below w.heap.size w w1) (hK : ∀ k, K k → L k ∨ w.heap.size ≤ k) : CaGo S D L S' D' w w' := by
  have hz := hb.size
  have hz2 := h.chg.size
  refine ⟨⟨h.chg.os.trans hb.os, h.chg.tape.trans hb.tape, h.chg.output.trans hb.output, by omega, fun i hi hn => ?_⟩, fun i hi => ?_, fun i hi => ?_⟩
  · rw [h.chg.block i (by omega) (fun hx => ?_), hb.block i hi]
    rcases hx with hx | hx
    · exact hn (.inl hx)
    · rcases hK i hx with hx | hx
      · exact hn (.inr hx)
      · omega
  · rcases h.s i hi with h | h
    · exact .inl h
    · exact .inr (by omega)
  · rcases h.d i hi with h | h
    · exact .inl h
    · exact .inr (by omega)
/-- A block that is none of these stays, and is none of them later. -/
theorem CaGo.stays {S D K S' D' : Nat → Prop} {w w' : World} (h : CaGo S D K S' D' w w') {k : Nat} (hl : k < w.heap.size) (hS : ¬ S k) (hK : ¬ K k) : w'.heap[k]? = w.heap[k]? ∧ ¬ S' k := by
  refine ⟨h.chg.block k hl fun hx => hx.elim hS hK, fun hx => ?_⟩
  rcases h.s k hx with hx | hx
  · exact hS hx
  · omega
theorem CaGo.notD {S D K S' D' : Nat → Prop} {w w' : World} (h : CaGo S D K S' D' w w') {k : Nat} (hl : k < w.heap.size) (hD : ¬ D k) : ¬ D' k := fun hx => by
  rcases h.d k hx with hx | hx
  · exact hD hx
  · omega
theorem CaGo.cell {S D K S' D' : Nat → Prop} {w w' : World} (h : CaGo S D K S' D' w w') {b i : Nat} {v : Value} (hc : w.cell? ⟨b, i, none⟩ = some v) (hS : ¬ S b) (hK : ¬ K b) : w'.cell? ⟨b, i, none⟩ = some v := by
  have hl := World.block_lt_of_cell? _ _ hc
  rw [← hc]
  simp only [World.cell?, (h.stays hl hS hK).1]
theorem CaS.grow {w0 w w' : World} {S D : Nat → Prop} {sb cb t n : Nat} {a : Int} {s : St.S} (h : CaS w0 S D sb cb t a s n w) (hb : Below w.heap.size w w') : CaS w0 S D sb cb t a s n w' :=
  ⟨h.st.grow hb, (hb.block cb (Array.getElem?_eq_some_iff.1 h.box).1).trans h.box, h.nS, h.nD, h.lo, h.asked⟩
theorem CaS.mono {w0 w : World} {S D : Nat → Prop} {sb cb t n m : Nat} {a : Int} {s : St.S} (h : CaS w0 S D sb cb t a s n w) (hm : n ≤ m) : CaS w0 S D sb cb t a s m w :=
  ⟨h.st.mono hm, h.box, h.nS, h.nD, h.lo, ⟨h.asked.1, by have := h.asked.2; omega⟩⟩
theorem StS.setC {w0 w : World} {S D : Nat → Prop} {sb n : Nat} {s : St.S} (h : StS w0 S D sb s n w) (b i : Nat) (v : Value) (hS : ¬ S b) (hD : ¬ D b) (h0 : w0.heap.size ≤ b) : StS w0 S D sb s n (w.setCell ⟨b, i, none⟩ v) :=
  ⟨h.st.kept (by simp) fun k hk _ => Below.heap_setCell _ _ _ _ fun e => by subst e; exact hk.elim hS hD, h.lo, h.below.setCell (p := ⟨b, i, none⟩) h0 v, h.calls, h.failed⟩

theorem St.agn_unit (g : St.S → (Unit × Option Nat) × St.S) : ∀ (n : Nat) (last : Option Nat) (s : St.S),
    (St.agn (St.askOf g) n last (s, ())).r = (St.agn (St.bareOf g) n last s).r ∧ (St.agn (St.askOf g) n last (s, ())).k = (St.agn (St.bareOf g) n last s).k ∧ (St.agn (St.askOf g) n last (s, ())).st.1 = (St.agn (St.bareOf g) n last s).st
  | 0, _, _ => ⟨rfl, rfl, rfl⟩
  | n + 1, last, s => by
    have h1 : (St.askOf g (s, ())).1 = (St.bareOf g s).1 := rfl
    by_cases h : (St.bareOf g s).1 = some 10
    · rw [St.agn_more (h1.trans h), St.agn_more h]
      obtain ⟨q1, q2, q3⟩ := St.agn_unit g n (some 10) (St.bareOf g s).2
      exact ⟨q1, by show (St.agn (St.askOf g) n (some 10) ((St.bareOf g s).2, ())).k + 1 = _; rw [q2], q3⟩
    · rw [St.agn_stop (fun e => h (h1.symm.trans e)), St.agn_stop h]
      exact ⟨rfl, rfl, rfl⟩

/-- Asked again, with values in boxes of the call's own (K). -/
theorem caAgain {E : Nat → Prop} (h10 : E 10) {α : Type} {w0 wA : World} {S D : Nat → Prop} {sb cb t n : Nat} {a : Int} {s : St.S} (h : CaS w0 S D sb cb t a s n wA) {p : Nat → Addr} (hs : SentsOn E w0 p) (ht : 1 ≤ t ∧ t ≤ 8) (hn : n ≤ 1000000) (F : Nat) (caps : Array Value) (hE : Enters Tryz.prog F)
    (g : St.S → (α × Option Nat) × St.S) (hr : ∀ s j, (g s).1.2 = some j → E j) (K : Nat → Prop) (B : α → World → Prop) (Ok : St.S → Prop) (hOk : ∀ s, Ok s → Ok (g s).2)
    (hinc : ∀ x W v, B x W → B x (W.setCell ⟨cb, 2, none⟩ v))
    (hdo : ∀ S1 D1 s1 a1 n1 x W, n1 ≤ n + 8 → Ok s1 → StS w0 S1 D1 sb s1 n1 W → W.heap[cb]? = some (.cells (caCells sb t a1) 53 (0, 0)) → CaGo S D (fun k => k = cb ∨ K k) S1 D1 wA W → B x W →
      Calls Tryz.prog F caps W fun e W' => e = .returned (errR p (g s1).1.2) ∧ B (g s1).1.1 W' ∧ ∃ S2 D2, StS w0 S2 D2 sb (g s1).2 (n1 + 1) W' ∧ CaGo S1 D1 K S2 D2 W W')
    (hKc : ¬ K cb) (z : α) (hz : B z wA) (h0 : Ok s) :
    Calls Tryz.prog 38 #[.pointer (some ⟨cb, 0, none⟩), .func (.func F) #[] caps] wA fun e w' => e = .returned (.tuple #[.bool (St.again (St.askOf g) t (s, z)).doubt, errR p (St.again (St.askOf g) t (s, z)).r]) ∧ B (St.again (St.askOf g) t (s, z)).st.2 w' ∧ Ok (St.again (St.askOf g) t (s, z)).st.1 ∧
      ∃ S' D', CaS w0 S' D' sb cb t (a + (St.again (St.askOf g) t (s, z)).k) (St.again (St.askOf g) t (s, z)).st.1 (n + t) w' ∧ CaGo S D (fun k => k = cb ∨ K k) S' D' wA w' := by
  have hcl : cb < wA.heap.size := (Array.getElem?_eq_some_iff.1 h.box).1
  have hkk := St.agn_le (St.askOf g) t none (s, z)
  have hlo := h.lo
  have hac := h.asked
  refine (again_any h10 hs (St.askOf g) cb sb t ht F caps hE
    (fun j x W => ∃ S1 D1, j ≤ t ∧ Ok x.1 ∧ CaS w0 S1 D1 sb cb t (a + j) x.1 (n + j) W ∧ CaGo S D (fun k => k = cb ∨ K k) S1 D1 wA W ∧ B x.2 W)
    (fun j x W => ∃ S1 D1, j < t ∧ Ok x.1 ∧ StS w0 S1 D1 sb x.1 (n + j) W ∧ W.heap[cb]? = some (.cells (caCells sb t (a + j + 1)) 53 (0, 0)) ∧ CaGo S D (fun k => k = cb ∨ K k) S1 D1 wA W ∧ B x.2 W)
    a (by omega) (fun x j hj => hr x.1 j hj) (fun j x W hJ => ?_) (fun j x W hjt hJ => ?_) (fun j x W hjt hM => ?_) (s, z) ?_).mono fun e w' ⟨he, S', D', q1, q2, q3, q4, q5⟩ => ⟨he, q5, q2, S', D', q3.mono (by omega), q4⟩
  · obtain ⟨S1, D1, _, _, q3, _, _⟩ := hJ
    exact ⟨q3.box, q3.st.below⟩
  · obtain ⟨S1, D1, _, q2, q3, q4, q5⟩ := hJ
    refine ⟨S1, D1, hjt, q2, q3.st.setC cb 2 _ q3.nS q3.nD q3.lo, by rw [heap_set q3.box 2]; rfl, q4.trans ⟨Chg.setCell (S := fun k => S1 k ∨ (k = cb ∨ K k)) W cb 2 _ (.inr (.inl rfl)), fun _ h => .inl h, fun _ h => .inl h⟩, hinc _ _ _ q5⟩
  · obtain ⟨S1, D1, _, q2, q3, q4, q5, q6⟩ := hM
    refine (hdo S1 D1 x.1 _ _ x.2 W (by omega) q2 q3 q4 q5 q6).mono fun e W' ⟨he, hB, S2, D2, r1, r2⟩ => ⟨he, S2, D2, hjt, hOk _ q2, ?_, q5.trans (r2.mono fun _ h => .inr h), hB⟩
    have hS1 : ¬ S1 cb := fun hx => by
      rcases q5.s cb hx with hx | hx
      · exact h.nS hx
      · omega
    have hD1 : ¬ D1 cb := fun hx => by
      rcases q5.d cb hx with hx | hx
      · exact h.nD hx
      · omega
    have hcW : cb < W.heap.size := (Array.getElem?_eq_some_iff.1 q4).1
    obtain ⟨e1, hS2⟩ := r2.stays hcW hS1 hKc
    have e2 : a + (j : Int) + 1 = a + ((j + 1 : Nat) : Int) := by push_cast; omega
    exact ⟨r1, by rw [e1, q4, e2], hS2, r2.notD hcW hD1, hlo, ⟨by omega, by push_cast; omega⟩⟩
  · exact ⟨S, D, Nat.zero_le _, h0, by simpa using h, CaGo.refl _ _ _ _, hz⟩

/-- Asked again, where an error alone is told. -/
theorem caBare {E : Nat → Prop} (h10 : E 10) {w0 wA : World} {S D : Nat → Prop} {sb cb t n : Nat} {a : Int} {s : St.S} (h : CaS w0 S D sb cb t a s n wA) {p : Nat → Addr} (hs : SentsOn E w0 p) (ht : 1 ≤ t ∧ t ≤ 8) (hn : n ≤ 1000000) (F : Nat) (caps : Array Value) (hE : Enters Tryz.prog F)
    (g : St.S → (Unit × Option Nat) × St.S) (hr : ∀ s j, (g s).1.2 = some j → E j) (Ok : St.S → Prop) (hOk : ∀ s, Ok s → Ok (g s).2)
    (hdo : ∀ S1 D1 s1 a1 n1 W, n1 ≤ n + 8 → Ok s1 → StS w0 S1 D1 sb s1 n1 W → W.heap[cb]? = some (.cells (caCells sb t a1) 53 (0, 0)) → CaGo S D (fun k => k = cb) S1 D1 wA W →
      Calls Tryz.prog F caps W fun e W' => e = .returned (errR p (g s1).1.2) ∧ ∃ S2 D2, StS w0 S2 D2 sb (g s1).2 (n1 + 1) W' ∧ StGo S1 D1 S2 D2 W W')
    (h0 : Ok s) :
    Calls Tryz.prog 38 #[.pointer (some ⟨cb, 0, none⟩), .func (.func F) #[] caps] wA fun e w' => e = .returned (.tuple #[.bool (St.again (St.bareOf g) t s).doubt, errR p (St.again (St.bareOf g) t s).r]) ∧ Ok (St.again (St.bareOf g) t s).st ∧
      ∃ S' D', CaS w0 S' D' sb cb t (a + (St.again (St.bareOf g) t s).k) (St.again (St.bareOf g) t s).st (n + t) w' ∧ CaGo S D (fun k => k = cb) S' D' wA w' := by
  have hu := St.agn_unit g t none s
  have hd : (St.again (St.askOf g) t (s, ())).doubt = (St.again (St.bareOf g) t s).doubt := by unfold St.Ag.doubt; rw [hu.1, hu.2.1]
  refine (caAgain h10 h hs ht hn F caps hE g hr (fun _ => False) (fun _ _ => True) Ok hOk (fun _ _ _ _ => trivial) (fun S1 D1 s1 a1 n1 x W h1 h2 h3 h4 h5 _ => ?_) (fun h => h) () trivial h0).mono fun e w' ⟨he, _, hO, S', D', h1, h2⟩ => ?_
  · exact (hdo S1 D1 s1 a1 n1 W h1 h2 h3 h4 (h5.mono fun k hk => hk.elim id False.elim)).mono fun e W' ⟨he, S2, D2, r1, r2⟩ => ⟨he, trivial, S2, D2, r1, CaGo.of_st r2⟩
  · rw [hd, hu.1] at he
    rw [hu.2.1, hu.2.2] at h1
    rw [hu.2.2] at hO
    exact ⟨he, hO, S', D', h1, h2.mono fun k hk => hk.elim id False.elim⟩
theorem StGo.drew {S D S' D' : Nat → Prop} {w w' : World} (h : StGo S D S' D' w.drew w') : StGo S D S' D' w w' := ⟨(Chg.of_below (Below.refl w.heap.size w).drew).then h.chg, h.s, h.d⟩
/-- What is read of a block that stays. -/
theorem Arg.stays {S D K S' D' : Nat → Prop} {w w' : World} {A : Option Addr} {c : Nat} {b : List UInt8} (h : Arg w A c b) (hg : CaGo S D K S' D' w w') (hA : ∀ x o, A = some ⟨x, o, none⟩ → b ≠ [] → ¬ S x ∧ ¬ K x) : Arg w' A c b ∧ ∀ x o, A = some ⟨x, o, none⟩ → b ≠ [] → ¬ S' x := by
  have hx : ∀ x o, A = some ⟨x, o, none⟩ → b ≠ [] → w'.heap[x]? = w.heap[x]? ∧ ¬ S' x := fun x o e hb => by
    rcases h.reads with h1 | ⟨g, off, e1, hlt, -⟩
    · exact absurd h1 hb
    · rw [e1] at e; injection e with e; injection e with e _ _; subst e
      exact hg.stays hlt (hA _ _ e1 hb).1 (hA _ _ e1 hb).2
  refine ⟨⟨h.le, h.max, h.nil, h.reads.kept hg.chg.size fun a ha hb => ?_⟩, fun x o e hb => (hx x o e hb).2⟩
  rcases h.reads with h1 | ⟨g, off, e1, hlt, -⟩
  · exact absurd h1 hb
  · rw [e1] at ha; injection ha with ha; subst ha
    exact (hx _ _ e1 hb).1
end Go.Proofs.YtegaahcelogmlaaGreatDoor

namespace Go.Proofs.YtegaahcelogmlaaGreatDoor
open Go.RowKit Go.Maps

set_option maxRecDepth 100000 in
set_option maxHeartbeats 1000000 in
theorem caNew_any {w0 w : World} {S D : Nat → Prop} {sb n : Nat} {s : St.S} (h : StS w0 S D sb s n w) (t : Nat) (ht : 1 ≤ t ∧ t ≤ 8) (tc : Int) (htc : tc = t) :
    Calls Tryz.prog 7 #[.pointer (some ⟨sb, 0, none⟩), .int .i64 tc] w fun e w' => e = .returned (.tuple #[.pointer (some ⟨w.heap.size, 0, none⟩), .nilIface]) ∧ CaS w0 S D sb w.heap.size t 0 s n w' ∧ Below w.heap.size w w' := by
  subst htc
  have HH := hide h
  have HT := hide ht
  have h1 : ¬ ((t : Int) < 1) := by omega
  have h2 : ¬ ((8 : Int) < t) := by omega
  clear h ht
  go_enter Tryz.func7, Tryz.ntmps7
  go_wp2_with fail
  go_returns
  have hb : Below w.heap.size w (w.alloc (.cells #[.pointer (some ⟨sb, 0, none⟩), .int .i64 t, .int .i64 0] 53)) := balloc (Below.refl _ _) _
  exact ⟨rfl, ⟨HH.out.grow hb, heap_alloc_new _ _, fun hx => by have := HH.out.lt _ (.inl hx); omega, fun hx => by have := HH.out.lt _ (.inr hx); omega, HH.out.below.size, ⟨Int.le_refl _, by omega⟩⟩, hb⟩

/-- The store was told something beside its client. -/
theorem CaS.other {w0 w w' : World} {S D S' D' : Nat → Prop} {sb cb t n n' : Nat} {a : Int} {s s' : St.S} (h : CaS w0 S D sb cb t a s n w) (hs : StS w0 S' D' sb s' n' w') (hg : StGo S D S' D' w w') (hn : n ≤ n') : CaS w0 S' D' sb cb t a s' n' w' := by
  have hcl : cb < w.heap.size := (Array.getElem?_eq_some_iff.1 h.box).1
  have hg2 : CaGo S D (fun _ => False) S' D' w w' := CaGo.of_st hg
  obtain ⟨e, hS⟩ := hg2.stays hcl h.nS id
  exact ⟨hs, e.trans h.box, hS, hg2.notD hcl h.nD, h.lo, ⟨h.asked.1, by have := h.asked.2; omega⟩⟩
/-- What a client's call that tells an error alone makes of a store. -/
abbrev St.cput (t : Nat) (k : St.Nm) (b : List UInt8) (s : St.S) : St.Ag St.S := St.again (St.bareOf fun s => s.ask () (St.S.putF k b)) t s
theorem St.err_in {E : Nat → Prop} (h10 : E 10) {α : Type} (z : α) (g : St.S → (α × Option Nat) × St.S) (h : ∀ t j, (g t).1.2 = some j → E j) (s : St.S) (j : Nat) (hj : (s.ask z g).1.2 = some j) : E j := by
  unfold St.S.ask at hj
  split at hj
  · simp at hj; exact hj ▸ h10
  · split at hj
    · simp at hj; exact hj ▸ h10
    · exact h _ _ hj
theorem St.put_in {E : Nat → Prop} (h5 : E 5) (k : St.Nm) (b : List UInt8) (t : St.S) (j : Nat) (h : (St.S.putF k b t).1.2 = some j) : E j := by
  unfold St.S.putF at h; split at h <;> simp at h; exact h ▸ h5
end Go.Proofs.YtegaahcelogmlaaGreatDoor
