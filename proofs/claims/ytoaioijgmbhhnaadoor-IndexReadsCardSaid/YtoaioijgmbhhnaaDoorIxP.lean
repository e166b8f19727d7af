/-
  An index, plainly: its marks, what was added, the greatest time; Add.
-/
import Derived.Test.YtoaioijgmbhhnaaDoorWords
namespace Go.Proofs.YtoaioijgmbhhnaaDoor.Ix

structure Mark where
  off : Int
  time : Int
  pos : Int
structure Ad where
  off : Int
  pos : Int
structure St where
  every : Int
  marks : List Mark
  adds : List Ad
  time : Int
def new (every : Int) : St := ⟨every, [], [], -1099511627776⟩
def okO (o : Int) : Prop := 0 ≤ o ∧ o ≤ 1099511627776
def okT (t : Int) : Prop := -1099511627776 ≤ t ∧ t ≤ 1099511627776
def okP (p : Int) : Prop := 0 ≤ p ∧ p ≤ 1073741824
/-- Behind the last one that was added. -/
def behind (l : List Ad) (o p : Int) : Prop := ∀ a, l.getLast? = some a → a.off < o ∧ a.pos < p
/-- It lies every bytes or more behind the last mark. -/
def due (s : St) (p : Int) : Prop := ∀ m, s.marks.getLast? = some m → s.every ≤ p - m.pos
instance (o : Int) : Decidable (okO o) := inferInstanceAs (Decidable (_ ∧ _))
instance (o : Int) : Decidable (okT o) := inferInstanceAs (Decidable (_ ∧ _))
instance (o : Int) : Decidable (okP o) := inferInstanceAs (Decidable (_ ∧ _))
instance (l : List Ad) (o p : Int) : Decidable (behind l o p) := by
  unfold behind
  cases l.getLast? with
  | none => exact isTrue fun a h => by cases h
  | some b => exact decidable_of_iff (b.off < o ∧ b.pos < p) ⟨fun h a e => by cases e; exact h, fun h => h b rfl⟩
instance (s : St) (p : Int) : Decidable (due s p) := by
  unfold due
  cases s.marks.getLast? with
  | none => exact isTrue fun a h => by cases h
  | some b => exact decidable_of_iff (s.every ≤ p - b.pos) ⟨fun h a e => by cases e; exact h, fun h => h b rfl⟩
def good (s : St) (o t p z : Int) : Prop := okO o ∧ okT t ∧ 1 ≤ z ∧ okP p ∧ behind s.adds o p
instance (s : St) (o t p z : Int) : Decidable (good s o t p z) := inferInstanceAs (Decidable (_ ∧ _))
/-- What is taken in. -/
def put (s : St) (o t p : Int) : St :=
  ⟨s.every, if due s p then s.marks ++ [⟨o, max s.time t, p⟩] else s.marks, s.adds ++ [⟨o, p⟩], max s.time t⟩
def add (s : St) (o t p z : Int) : Option Nat × St := if good s o t p z then (none, put s o t p) else (some 4, s)

/-- Its numbers are such as may be. -/
structure Ok (s : St) : Prop where
  every : 1 ≤ s.every ∧ s.every ≤ 1048576
  time : okT s.time
  marks : ∀ m ∈ s.marks, okO m.off ∧ okT m.time ∧ okP m.pos
  adds : ∀ a ∈ s.adds, okO a.off ∧ okP a.pos
theorem Ok.new (e : Int) (h : 1 ≤ e ∧ e ≤ 1048576) : Ok (new e) :=
  ⟨h, (show okT (-1099511627776) from ⟨by omega, by omega⟩), fun m (hm : m ∈ []) => (by cases hm), fun a (ha : a ∈ []) => (by cases ha)⟩
theorem okT_max {a b : Int} (ha : okT a) (hb : okT b) : okT (max a b) := by unfold okT at *; omega
theorem Ok.put {s : St} (h : Ok s) (o t p : Int) (ho : okO o) (ht : okT t) (hp : okP p) : Ok (put s o t p) := by
  refine ⟨h.every, okT_max h.time ht, fun m hm => ?_, fun a ha => ?_⟩
  · unfold Ix.put at hm
    simp only at hm
    split at hm
    · rcases List.mem_append.1 hm with hm | hm
      · exact h.marks m hm
      · rw [List.mem_singleton] at hm; subst hm; exact ⟨ho, okT_max h.time ht, hp⟩
    · exact h.marks m hm
  · rcases List.mem_append.1 ha with ha | ha
    · exact h.adds a ha
    · rw [List.mem_singleton] at ha; subst ha; exact ⟨ho, hp⟩
end Go.Proofs.YtoaioijgmbhhnaaDoor.Ix
