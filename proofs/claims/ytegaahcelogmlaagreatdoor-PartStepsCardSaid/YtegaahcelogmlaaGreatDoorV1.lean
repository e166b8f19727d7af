/-
  A plan of parts, plainly: how many there are, where each lies; what asking again leaves.
-/
import Derived.Test.YtegaahcelogmlaaGreatDoorU1
namespace Go.Proofs.YtegaahcelogmlaaGreatDoor.St

/-- How many parts of e bytes n bytes come to. -/
def cnt (n e : Nat) : Nat := if 0 < n % e then n / e + 1 else n / e
theorem cnt_ceil (n e : Nat) (he : 0 < e) : (n + e - 1) / e = cnt n e := by
  have h := Nat.div_add_mod n e
  have hl := Nat.mod_lt n he
  unfold cnt
  split
  · next hr =>
    have e1 : n + e - 1 = (n % e - 1) + e * (n / e + 1) := by rw [Nat.mul_add]; omega
    rw [e1, Nat.add_mul_div_left _ _ he, Nat.div_eq_of_lt (by omega)]; omega
  · next hr =>
    have e1 : n + e - 1 = (e - 1) + e * (n / e) := by omega
    rw [e1, Nat.add_mul_div_left _ _ he, Nat.div_eq_of_lt (by omega)]; omega
theorem cnt_cover (n e : Nat) (he : 0 < e) : n ≤ cnt n e * e := by
  have h := Nat.div_add_mod n e
  have hl := Nat.mod_lt n he
  unfold cnt
  split
  · rw [Nat.add_mul, Nat.mul_comm]; omega
  · rw [Nat.mul_comm]; omega
theorem cnt_below {n e j : Nat} (he : 0 < e) (hj : j < cnt n e) : j * e < n := by
  have h := Nat.div_add_mod n e
  unfold cnt at hj
  split at hj
  · have : j * e ≤ n / e * e := Nat.mul_le_mul_right e (by omega)
    rw [Nat.mul_comm (n / e)] at this; omega
  · have : (j + 1) * e ≤ n / e * e := Nat.mul_le_mul_right e (by omega)
    rw [Nat.mul_comm (n / e), Nat.add_mul] at this; omega
theorem cnt_le (n e : Nat) (he : 0 < e) : cnt n e ≤ n := by
  apply Nat.le_of_not_lt
  intro h
  have := cnt_below he h
  have : n * 1 ≤ n * e := Nat.mul_le_mul_left n he
  omega
/-- The part that is number j. -/
def piece (b : List UInt8) (e j : Nat) : List UInt8 := (b.drop (j * e)).take e
theorem piece_len (b : List UInt8) (e j : Nat) : (piece b e j).length = min e (b.length - j * e) := by simp [piece]
theorem piece_le (b : List UInt8) (e j : Nat) : (piece b e j).length ≤ b.length := by rw [piece_len]; omega
theorem join_pieces {f : Int → Option (List UInt8)} {b : List UInt8} {e : Nat} : ∀ n : Nat, (∀ j : Nat, j < n → f (j : Int) = some (piece b e j)) → joinN f n = some (b.take (n * e))
  | 0, _ => by simp [joinN]
  | n + 1, h => by
    unfold joinN
    rw [join_pieces n fun j hj => h j (by omega), h n (by omega)]
    simp only [piece, Nat.add_mul, Nat.one_mul, List.take_add]
theorem join_all {f : Int → Option (List UInt8)} {b : List UInt8} {e : Nat} (he : 0 < e) (h : ∀ j : Nat, j < cnt b.length e → f (j : Int) = some (piece b e j)) : joinN f (cnt b.length e) = some b := by
  rw [join_pieces _ h, List.take_of_length_le (cnt_cover _ _ he)]

/-- What is asked till it is answered: P while it isn't, Q of the answer. -/
theorem agn_do {σ : Type} {f : σ → Option Nat × σ} {P : σ → Prop} {Q : Option Nat → σ → Prop} (hf : ∀ s, P s → ((f s).1 = some 10 ∧ P (f s).2) ∨ ((f s).1 ≠ some 10 ∧ Q (f s).1 (f s).2)) : ∀ (n : Nat) (last : Option Nat) (s : σ), P s → 0 < n ∨ last = some 10 →
    ((agn f n last s).r = some 10 ∧ P (agn f n last s).st) ∨ ((agn f n last s).r ≠ some 10 ∧ Q (agn f n last s).r (agn f n last s).st)
  | 0, last, s, hP, hl => .inl ⟨hl.elim (fun h => absurd h (Nat.lt_irrefl _)) id, hP⟩
  | n + 1, last, s, hP, hl => by
    rcases hf s hP with ⟨h1, h2⟩ | ⟨h1, h2⟩
    · rw [agn_more h1]; exact agn_do hf n (some 10) _ h2 (.inr rfl)
    · rw [agn_stop h1]; exact .inr ⟨h1, h2⟩
/-- What is asked of a store under P, where it is done leaves Q of what it tells. -/
theorem ask_do {α : Type} {z : α} {g : S → (α × Option Nat) × S} {P : S → Prop} {Q : α → Option Nat → S → Prop} (hm : Mild g) (hPt : ∀ t, P t → P t.took) (hg : ∀ t, P t → P (g t).2 ∧ Q (g t).1.1 (g t).1.2 (g t).2) (s : S) (h : P s) :
    ((s.ask z g).1.2 = some 10 ∧ P (s.ask z g).2) ∨ ((s.ask z g).1.2 ≠ some 10 ∧ Q (s.ask z g).1.1 (s.ask z g).1.2 (s.ask z g).2) := by
  unfold S.ask
  split
  · exact .inl ⟨rfl, hPt _ h⟩
  · split
    · exact .inl ⟨rfl, (hg _ (hPt _ h)).1⟩
    · exact .inr ⟨hm.r _, (hg _ (hPt _ h)).2⟩
/-- How long the script is behind what was asked. -/
theorem agn_script {σ : Type} {f : σ → Option Nat × σ} {sc : σ → List Int} {ca : σ → Int} (h : Asks f sc ca) (n : Nat) (last : Option Nat) (s : σ) (hn : 0 < n) :
    (sc (agn f n last s).st).length ≤ (sc s).length - 1 ∧ (sc s = [] → (agn f n last s).r ≠ some 10 ∧ (agn f n last s).k = 1) ∧ 1 ≤ (agn f n last s).k := by
  obtain ⟨h1, h2, h3, h4⟩ := agn_lead h n last s
  have hk : 1 ≤ (agn f n last s).k := by rw [h1]; split <;> omega
  refine ⟨by rw [h2, List.length_drop]; omega, fun he => ?_, hk⟩
  have hl : lead n ([] : List Int) = 0 := by cases n <;> rfl
  rw [he, hl] at h1
  refine ⟨fun hr => ?_, by rw [h1, if_neg (by omega)]⟩
  have := (h4 (.inl hn)).1 hr
  rw [he, hl] at this
  omega
theorem more_doubt {σ : Type} {f : σ → Option Nat × σ} {n : Nat} {s : σ} {j : Nat} (hn : 0 < n) (h1 : (f s).1 = none ∨ (f s).1 = some 10) (hj : (again f n s).r = some j) : (again f n s).doubt = true := by
  obtain ⟨n, rfl⟩ : ∃ m, n = m + 1 := ⟨n - 1, by omega⟩
  unfold again at hj ⊢
  rcases h1 with h1 | h1
  · rw [agn_stop (by rw [h1]; simp)] at hj; rw [h1] at hj; cases hj
  · rw [agn_more h1] at hj ⊢
    simp only at hj
    unfold Ag.doubt
    cases n with
    | zero => simp [agn] at hj ⊢
    | succ n =>
      have : 1 ≤ (agn f (n + 1) (some 10) (f s).2).k := by
        by_cases h2 : (f (f s).2).1 = some 10
        · rw [agn_more h2]; simp only; omega
        · rw [agn_stop h2]; exact Nat.le_refl _
      simp only [Bool.or_eq_true, decide_eq_true_eq]
      exact .inl (by omega)
end Go.Proofs.YtegaahcelogmlaaGreatDoor.St
