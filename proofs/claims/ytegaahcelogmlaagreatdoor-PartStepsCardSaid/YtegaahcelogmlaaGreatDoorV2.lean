/-
  A Step of an upload in parts, plainly.
  What is next of an upload in parts, walked: next, Step.
  A plan of parts, walked: Make.
-/
import Derived.Test.YtegaahcelogmlaaGreatDoorV1
import Derived.Test.YtegaahcelogmlaaGreatDoorR3
import Derived.Test.YtegaahcelogmlaaGreatDoorV4
import Derived.Test.YtegaahcelogmlaaGreatDoorV0
namespace Go.Proofs.YtegaahcelogmlaaGreatDoor.St

/-- What is done next tells and leaves: an id, how many are done, whether it is over, an error. -/
structure Nx where
  a : Int
  b : Nat
  o : Bool
  r : Option Nat
  st : S
abbrev cpart (t : Nat) (id l : Int) (pc : List UInt8) (s : S) : Ag S := again (bareOf fun s => s.ask () (S.partF id l pc)) t s
def nxt (t : Nat) (nm : Nm) (b : List UInt8) (e : Nat) (s : S) (id : Int) (done : Nat) : Nx :=
  if id = 0 then ⟨(cstart t nm s).st.2, 0, false, (cstart t nm s).r, (cstart t nm s).st.1⟩
  else if done < cnt b.length e then ⟨id, done + 1, false, (cpart t id (done : Nat) (piece b e done) s).r, (cpart t id (done : Nat) (piece b e done) s).st⟩
  else ⟨id, done, true, (ccomp t id (cnt b.length e : Nat) nm (b.length : Nat) (U (Crc.sum b)) s).r, (ccomp t id (cnt b.length e : Nat) nm (b.length : Nat) (U (Crc.sum b)) s).st⟩
/-- What Step tells of it. -/
def Nx.tA (N : Nx) (id : Int) : Int := if N.r = none then N.a else if N.r = some 6 then 0 else id
def Nx.tB (N : Nx) (done : Nat) : Nat := if N.r = none then N.b else if N.r = some 6 then 0 else done
def Nx.tO (N : Nx) : Bool := if N.r = none then N.o else false
def Nx.tE (N : Nx) : Option Nat := if N.r = some 6 then none else N.r
theorem Nx.fine {N : Nx} (h : N.r = none) (id : Int) (done : Nat) : N.tA id = N.a ∧ N.tB done = N.b ∧ N.tO = N.o ∧ N.tE = none := by simp [Nx.tA, Nx.tB, Nx.tO, Nx.tE, h]
theorem Nx.gone {N : Nx} (h : N.r = some 6) (id : Int) (done : Nat) : N.tA id = 0 ∧ N.tB done = 0 ∧ N.tO = false ∧ N.tE = none := by simp [Nx.tA, Nx.tB, Nx.tO, Nx.tE, h]
theorem Nx.bad {N : Nx} {j : Nat} (h : N.r = some j) (hj : j ≠ 6) (id : Int) (done : Nat) : N.tA id = id ∧ N.tB done = done ∧ N.tO = false ∧ N.tE = some j := by simp [Nx.tA, Nx.tB, Nx.tO, Nx.tE, h, hj]

section
variable {nm : Nm} {b : List UInt8} {e : Nat}
/-- An upload whose first so many parts are laid. -/
def Live (nm : Nm) (b : List UInt8) (e : Nat) (id : Int) (done : Nat) (s : S) : Prop := ∃ u, s.ups id = some u ∧ u.name = nm ∧ (∀ j : Nat, j < done → u.parts (j : Int) = some (piece b e j)) ∧ ∀ n c, u.parts n = some c → c.length ≤ b.length
/-- One that was completed. -/
def Fin (nm : Nm) (b : List UInt8) (id : Int) (s : S) : Prop := s.ups id = none ∧ s.objs nm = some b
/-- No part of it is longer than all. -/
def Few (b : List UInt8) (id : Int) (s : S) : Prop := ∀ u, s.ups id = some u → ∀ n c, u.parts n = some c → c.length ≤ b.length
theorem Live.few {id : Int} {done : Nat} {s : S} (h : Live nm b e id done s) : Few b id s := fun u hu n c hc => by
  obtain ⟨v, h1, -, -, h4⟩ := h
  rw [h1] at hu; cases hu; exact h4 n c hc
theorem Fin.few {id : Int} {s : S} (h : Fin nm b id s) : Few b id s := fun u hu => by rw [h.1] at hu; cases hu
theorem Few.comp {id l : Int} {s : S} (h : Few b id s) : Few b id (s.ask () (S.compF id l)).2 := by
  have h1 : ∀ t : S, Few b id t → Few b id (S.compF id l t).2 := fun t ht => by
    unfold S.compF
    split
    · exact ht
    · split
      · exact ht
      · split
        · exact ht
        · intro u hu; simp [upd] at hu
  have h0 : Few b id s.took := h
  unfold S.ask
  split
  · exact h0
  · split <;> exact h1 _ h0
theorem Few.sum {id : Int} {s : S} (h : Few b id s) (hb : b.length ≤ 1000) : ∀ u, s.ups id = some u → ∀ k c, k ≤ 256 → joinN u.parts k = some c → c.length ≤ 1000000000 := fun u hu k c hk hj => by
  have h1 := joinN_len b.length (h u hu) k c hj
  have : b.length * k ≤ 1000 * 256 := Nat.mul_le_mul hb hk
  omega
theorem start_any (hv : Dk.valid nm = true) (t : Nat) (ht : 0 < t) (s : S) (h0 : 0 ≤ s.last) :
    ((cstart t nm s).r = some 10 ∧ 0 ≤ (cstart t nm s).st.1.last) ∨ ((cstart t nm s).r = none ∧ 0 < (cstart t nm s).st.2 ∧ 0 ≤ (cstart t nm s).st.1.last ∧ Live nm b e (cstart t nm s).st.2 0 (cstart t nm s).st.1) := by
  have hf : ∀ x : S × Int, 0 ≤ x.1.last → ((askOf (fun s => s.ask 0 (S.startF nm)) x).1 = some 10 ∧ 0 ≤ (askOf (fun s => s.ask 0 (S.startF nm)) x).2.1.last) ∨ ((askOf (fun s => s.ask 0 (S.startF nm)) x).1 ≠ some 10 ∧ (askOf (fun s => s.ask 0 (S.startF nm)) x).1 = none ∧ 0 < (askOf (fun s => s.ask 0 (S.startF nm)) x).2.2 ∧ 0 ≤ (askOf (fun s => s.ask 0 (S.startF nm)) x).2.1.last ∧ Live nm b e (askOf (fun s => s.ask 0 (S.startF nm)) x).2.2 0 (askOf (fun s => s.ask 0 (S.startF nm)) x).2.1) := fun x hx =>
    ask_do (P := fun t => 0 ≤ t.last) (Q := fun a r t => r = none ∧ 0 < a ∧ 0 ≤ t.last ∧ Live nm b e a 0 t) (start_mild nm) (fun t h => h) (fun t h => by
      unfold S.startF
      rw [if_pos hv]
      exact ⟨by simp only; omega, rfl, by simp only; omega, by simp only; omega, ⟨nm, fun _ => none⟩, by simp [upd], rfl, fun j hj => absurd hj (Nat.not_lt_zero _), fun n c hc => by cases hc⟩) x.1 hx
  rcases agn_do (P := fun x : S × Int => 0 ≤ x.1.last) (Q := fun r x => r = none ∧ 0 < x.2 ∧ 0 ≤ x.1.last ∧ Live nm b e x.2 0 x.1) hf t none (s, 0) h0 (.inl ht) with h | h
  · exact .inl h
  · exact .inr h.2
theorem partF_live {id : Int} {done d : Nat} {s : S} (h : Live nm b e id d s) (hd : done < 256) (hl : done ≤ d) : (S.partF id (done : Nat) (piece b e done) s).1.2 = none ∧ Live nm b e id d (S.partF id (done : Nat) (piece b e done) s).2 ∧ (d = done → Live nm b e id (done + 1) (S.partF id (done : Nat) (piece b e done) s).2) ∧ (S.partF id (done : Nat) (piece b e done) s).2.last = s.last := by
  obtain ⟨u, h1, h2, h3, h4⟩ := h
  unfold S.partF
  rw [h1]
  simp only
  rw [if_neg (by omega)]
  have hx : ∀ j : Nat, (j < d ∨ j = done) → upd u.parts (done : Int) (some (piece b e done)) (j : Int) = some (piece b e j) := fun j hj => by
    by_cases e2 : j = done
    · subst e2; simp [upd]
    · simp only [upd, if_neg (show ¬ (j : Int) = (done : Int) by omega)]
      exact h3 j (by omega)
  have hy : ∀ n c, upd u.parts (done : Int) (some (piece b e done)) n = some c → c.length ≤ b.length := fun n c hc => by
    unfold upd at hc
    split at hc
    · cases hc; exact piece_le _ _ _
    · exact h4 n c hc
  exact ⟨rfl, ⟨⟨u.name, upd u.parts (done : Int) (some (piece b e done))⟩, by simp [upd], h2, fun j hj => hx j (.inl hj), hy⟩, fun e2 => ⟨⟨u.name, upd u.parts (done : Int) (some (piece b e done))⟩, by simp [upd], h2, fun j hj => hx j (by omega), hy⟩, rfl⟩
theorem part_any {id : Int} {done : Nat} {s : S} (h : Live nm b e id done s) (h0 : 0 ≤ s.last) (hd : done < 256) (t : Nat) (ht : 0 < t) :
    ((cpart t id (done : Nat) (piece b e done) s).r = some 10 ∧ 0 ≤ (cpart t id (done : Nat) (piece b e done) s).st.last ∧ Live nm b e id done (cpart t id (done : Nat) (piece b e done) s).st) ∨
    ((cpart t id (done : Nat) (piece b e done) s).r = none ∧ 0 ≤ (cpart t id (done : Nat) (piece b e done) s).st.last ∧ Live nm b e id (done + 1) (cpart t id (done : Nat) (piece b e done) s).st) := by
  have hf : ∀ x : S, (0 ≤ x.last ∧ Live nm b e id done x) → ((bareOf (fun s => s.ask () (S.partF id (done : Nat) (piece b e done))) x).1 = some 10 ∧ (0 ≤ (bareOf (fun s => s.ask () (S.partF id (done : Nat) (piece b e done))) x).2.last ∧ Live nm b e id done (bareOf (fun s => s.ask () (S.partF id (done : Nat) (piece b e done))) x).2)) ∨ ((bareOf (fun s => s.ask () (S.partF id (done : Nat) (piece b e done))) x).1 ≠ some 10 ∧ ((bareOf (fun s => s.ask () (S.partF id (done : Nat) (piece b e done))) x).1 = none ∧ 0 ≤ (bareOf (fun s => s.ask () (S.partF id (done : Nat) (piece b e done))) x).2.last ∧ Live nm b e id (done + 1) (bareOf (fun s => s.ask () (S.partF id (done : Nat) (piece b e done))) x).2)) := fun x hx =>
    ask_do (z := ()) (P := fun t => 0 ≤ t.last ∧ Live nm b e id done t) (Q := fun _ r t => r = none ∧ 0 ≤ t.last ∧ Live nm b e id (done + 1) t) (part_mild id done _) (fun t h => h) (fun t h => by
      obtain ⟨q1, q2, q3, q4⟩ := partF_live h.2 hd (Nat.le_refl _)
      exact ⟨⟨by rw [q4]; exact h.1, q2⟩, q1, by rw [q4]; exact h.1, q3 rfl⟩) x hx
  rcases agn_do (P := fun x : S => 0 ≤ x.last ∧ Live nm b e id done x) (Q := fun r x => r = none ∧ 0 ≤ x.last ∧ Live nm b e id (done + 1) x) hf t none s ⟨h0, h⟩ (.inl ht) with h | h
  · exact .inl h
  · exact .inr h.2
theorem compF_live {id : Int} {s : S} (he : 0 < e) (hc : cnt b.length e ≤ 256) (h : Live nm b e id (cnt b.length e) s) : (S.compF id (cnt b.length e : Nat) s).1.2 = none ∧ Fin nm b id (S.compF id (cnt b.length e : Nat) s).2 ∧ (S.compF id (cnt b.length e : Nat) s).2.last = s.last := by
  obtain ⟨u, h1, h2, h3, h4⟩ := h
  unfold S.compF
  rw [h1]
  simp only
  rw [if_neg (by omega), Int.toNat_natCast, join_all he h3]
  exact ⟨rfl, ⟨by simp [upd], by simp [upd, h2]⟩, rfl⟩
theorem compF_fin {id l : Int} {s : S} (h : Fin nm b id s) : S.compF id l s = (((), some 6), s) := by unfold S.compF; rw [h.1]
theorem head_fin {id : Int} {s : S} (h : Fin nm b id s) (h0 : 0 ≤ s.last) (t : Nat) (ht : 0 < t) :
    (0 ≤ (chead t nm s).st.1.last ∧ Fin nm b id (chead t nm s).st.1) ∧ (((chead t nm s).r = none ∧ (chead t nm s).st.2 = b) ∨ (chead t nm s).r = some 10) := by
  have h := read_again (g := S.headF nm) (z := []) (I := fun t => 0 ≤ t.last ∧ Fin nm b id t) (V := fun c => c = b) (fun t h => h) (fun t h => by unfold S.headF; rw [h.2.2]; exact ⟨rfl, rfl, h⟩) t none (s, []) ⟨h0, h⟩ (.inl ht)
  exact ⟨h.1, h.2.imp (fun q => q) And.left⟩
/-- What Complete tells and leaves, whatever becomes of it. -/
theorem comp_any {id : Int} {s : S} (he : 0 < e) (hc : cnt b.length e ≤ 256) (h : Live nm b e id (cnt b.length e) s ∨ Fin nm b id s) (h0 : 0 ≤ s.last) (t : Nat) (ht : 0 < t) :
    ((ccomp t id (cnt b.length e : Nat) nm (b.length : Nat) (U (Crc.sum b)) s).r = some 10 ∧ 0 ≤ (ccomp t id (cnt b.length e : Nat) nm (b.length : Nat) (U (Crc.sum b)) s).st.last ∧ (Live nm b e id (cnt b.length e) (ccomp t id (cnt b.length e : Nat) nm (b.length : Nat) (U (Crc.sum b)) s).st ∨ Fin nm b id (ccomp t id (cnt b.length e : Nat) nm (b.length : Nat) (U (Crc.sum b)) s).st)) ∨
    ((ccomp t id (cnt b.length e : Nat) nm (b.length : Nat) (U (Crc.sum b)) s).r = none ∧ 0 ≤ (ccomp t id (cnt b.length e : Nat) nm (b.length : Nat) (U (Crc.sum b)) s).st.last ∧ Fin nm b id (ccomp t id (cnt b.length e : Nat) nm (b.length : Nat) (U (Crc.sum b)) s).st) ∨
    ((ccomp t id (cnt b.length e : Nat) nm (b.length : Nat) (U (Crc.sum b)) s).r = some 6 ∧ s.ups id = none ∧ 0 ≤ (ccomp t id (cnt b.length e : Nat) nm (b.length : Nat) (U (Crc.sum b)) s).st.last ∧ Fin nm b id (ccomp t id (cnt b.length e : Nat) nm (b.length : Nat) (U (Crc.sum b)) s).st) := by
  have hg : ∀ x : S, (0 ≤ x.last ∧ (Live nm b e id (cnt b.length e) x ∨ Fin nm b id x)) → ((0 ≤ (S.compF id (cnt b.length e : Nat) x).2.last ∧ (Live nm b e id (cnt b.length e) (S.compF id (cnt b.length e : Nat) x).2 ∨ Fin nm b id (S.compF id (cnt b.length e : Nat) x).2)) ∧ (((S.compF id (cnt b.length e : Nat) x).1.2 = none ∨ (S.compF id (cnt b.length e : Nat) x).1.2 = some 6) ∧ 0 ≤ (S.compF id (cnt b.length e : Nat) x).2.last ∧ Fin nm b id (S.compF id (cnt b.length e : Nat) x).2)) := fun x hx => by
    rcases hx.2 with h | h
    · obtain ⟨q1, q2, q3⟩ := compF_live he hc h
      exact ⟨⟨by rw [q3]; exact hx.1, .inr q2⟩, .inl q1, by rw [q3]; exact hx.1, q2⟩
    · rw [compF_fin h]
      exact ⟨⟨hx.1, .inr h⟩, .inr rfl, hx.1, h⟩
  have hf : ∀ x : S, (0 ≤ x.last ∧ (Live nm b e id (cnt b.length e) x ∨ Fin nm b id x)) → ((bareOf (fun s => s.ask () (S.compF id (cnt b.length e : Nat))) x).1 = some 10 ∧ (0 ≤ (bareOf (fun s => s.ask () (S.compF id (cnt b.length e : Nat))) x).2.last ∧ (Live nm b e id (cnt b.length e) (bareOf (fun s => s.ask () (S.compF id (cnt b.length e : Nat))) x).2 ∨ Fin nm b id (bareOf (fun s => s.ask () (S.compF id (cnt b.length e : Nat))) x).2))) ∨ ((bareOf (fun s => s.ask () (S.compF id (cnt b.length e : Nat))) x).1 ≠ some 10 ∧ (((bareOf (fun s => s.ask () (S.compF id (cnt b.length e : Nat))) x).1 = none ∨ (bareOf (fun s => s.ask () (S.compF id (cnt b.length e : Nat))) x).1 = some 6) ∧ 0 ≤ (bareOf (fun s => s.ask () (S.compF id (cnt b.length e : Nat))) x).2.last ∧ Fin nm b id (bareOf (fun s => s.ask () (S.compF id (cnt b.length e : Nat))) x).2)) := fun x hx =>
    ask_do (z := ()) (P := fun t => 0 ≤ t.last ∧ (Live nm b e id (cnt b.length e) t ∨ Fin nm b id t)) (Q := fun _ r t => (r = none ∨ r = some 6) ∧ 0 ≤ t.last ∧ Fin nm b id t) (comp_mild id _) (fun t h => h) hg x hx
  obtain ⟨A, hAe⟩ : ∃ A, A = again (bareOf fun s => s.ask () (S.compF id (cnt b.length e : Nat))) t s := ⟨_, rfl⟩
  have hA : (A.r = some 10 ∧ 0 ≤ A.st.last ∧ (Live nm b e id (cnt b.length e) A.st ∨ Fin nm b id A.st)) ∨ (A.r ≠ some 10 ∧ (A.r = none ∨ A.r = some 6) ∧ 0 ≤ A.st.last ∧ Fin nm b id A.st) := hAe ▸ agn_do (P := fun x : S => 0 ≤ x.last ∧ (Live nm b e id (cnt b.length e) x ∨ Fin nm b id x)) (Q := fun r x => (r = none ∨ r = some 6) ∧ 0 ≤ x.last ∧ Fin nm b id x) hf t none s ⟨h0, h⟩ (.inl ht)
  have hD : Live nm b e id (cnt b.length e) s → ∀ j, (again (bareOf fun s => s.ask () (S.compF id (cnt b.length e : Nat))) t s).r = some j → (again (bareOf fun s => s.ask () (S.compF id (cnt b.length e : Nat))) t s).doubt = true := fun hl j hj => by
    refine more_doubt ht ?_ hj
    have hs : Live nm b e id (cnt b.length e) s.took := hl
    show (s.ask () (S.compF id (cnt b.length e : Nat))).1.2 = none ∨ (s.ask () (S.compF id (cnt b.length e : Nat))).1.2 = some 10
    unfold S.ask
    split
    · exact .inr rfl
    · split
      · exact .inr rfl
      · exact .inl (compF_live he hc hs).1
  unfold ccomp
  rw [← hAe] at hD ⊢
  rcases hA with ⟨q1, q2⟩ | ⟨-, q1 | q1, q2, q3⟩
  · rw [if_neg (by rw [q1]; simp)]
    exact .inl ⟨q1, q2⟩
  · rw [if_neg (by rw [q1]; simp)]
    exact .inr (.inl ⟨q1, q2, q3⟩)
  · obtain ⟨⟨k1, k2⟩, k3⟩ := head_fin q3 q2 t ht
    cases hd : A.doubt
    · rw [if_neg (by simp)]
      refine .inr (.inr ⟨q1, ?_, q2, q3⟩)
      rcases h with h | h
      · have := hD h 6 q1; rw [hd] at this; cases this
      · exact h.1
    · rw [if_pos ⟨rfl, q1⟩]
      rcases k3 with ⟨k3, k4⟩ | k3
      · simp only [k3, k4, ne_eq, not_true_eq_false, or_self, and_false, if_false]
        exact .inr (.inl ⟨trivial, k1, k2⟩)
      · simp only [k3]
        exact .inl ⟨by simp, k1, .inr k2⟩
end
end Go.Proofs.YtegaahcelogmlaaGreatDoor.St

namespace Go.Proofs.YtegaahcelogmlaaGreatDoor
open Go.RowKit Go.Maps

/-- What a step of an upload stands on. -/
structure PaIn (E : Nat → Prop) (w0 : World) (S : Nat → Prop) (cb t n : Nat) (p : Nat → Addr) (nm : List UInt8) (A : Option Addr) (c L : Nat) (b : List UInt8) (e : Nat) (w : World) : Prop where
  hs : SentsOn E w0 p
  tabs : Tabs w0
  ht : 1 ≤ t ∧ t ≤ 8
  hn : n ≤ 700000
  hk : nm.length ≤ 64
  arg : Arg w A c b
  len : b.length = L
  few : L ≤ 1000
  apart : ∀ x o, A = some ⟨x, o, none⟩ → b ≠ [] → ¬ S x ∧ ¬ x = cb
  he : 1 ≤ e ∧ e ≤ 1048576
  hc : St.cnt L e ≤ 256
theorem PaIn.grow {E : Nat → Prop} {w0 w w' : World} {S : Nat → Prop} {cb t n : Nat} {p : Nat → Addr} {nm : List UInt8} {A : Option Addr} {c L : Nat} {b : List UInt8} {e : Nat} (h : PaIn E w0 S cb t n p nm A c L b e w) (hb : Below w.heap.size w w') : PaIn E w0 S cb t n p nm A c L b e w' :=
  ⟨h.hs, h.tabs, h.ht, h.hn, h.hk, h.arg.below hb (Nat.le_refl _), h.len, h.few, h.apart, h.he, h.hc⟩

set_option maxRecDepth 100000 in
set_option maxHeartbeats 1000000 in
theorem paNext_any {E : Nat → Prop} [hE : Told E] {w0 w : World} {S D : Nat → Prop} {sb cb t n : Nat} {a : Int} {s : St.S} {p : Nat → Addr} {nm : List UInt8} {A : Option Addr} {c L : Nat} {b : List UInt8} {e : Nat} (h : CaS w0 S D sb cb t a s n w) (hi : PaIn E w0 S cb t n p nm A c L b e w)
    (id : Int) (hid : -9223372036854775808 ≤ id ∧ id ≤ 9223372036854775807) (done : Nat) (hd : done ≤ St.cnt L e) (hf : St.Few b id s) (N : St.Nx) (hN : N = St.nxt t nm b e s id done) :
    Calls Tryz.prog 20 #[.pointer (some ⟨cb, 0, none⟩), planV nm L (U (Crc.sum b)) e (St.cnt L e : Nat), .slice A L c, .int .i64 id, .int .i64 done] w fun x w' => x = .returned (.tuple #[.int .i64 N.a, .int .i64 N.b, .bool N.o, errR p N.r]) ∧ ∃ a' S' D', CaS w0 S' D' sb cb t a' N.st (n + t + t) w' ∧ CaGo S D (fun k => k = cb) S' D' w w' := by
  have hL := hi.len
  have hL2 := hi.few
  have hm := hi.hc
  have HH := hide h
  have HI := hide hi
  unfold St.nxt at hN
  rw [hL] at hN
  by_cases h0 : id = 0
  · subst h0
    rw [if_pos rfl] at hN
    have HN := hide hN
    clear hf h hi hN hid
    generalize St.cnt L e = m at *
    go_enter Tryz.func20, Tryz.ntmps20
    go_wp2_with (first
      | (go_at_call 28; have hb := balloc (Below.refl w.heap.size w) (.cells #[encStr nm, .int .i64 (L : Int), .int .u32 (U (Crc.sum b)), .int .i64 (e : Int), .int .i64 (m : Int)] 35); have HB := hide hb; refine ((HH.out.grow hb).start p HI.out.hs HI.out.ht (by have := HI.out.hn; omega) nm (by have := HI.out.hk; omega)).mono ?_; clear hb; rintro x w2 ⟨rfl, S', D', h1, h2⟩; have H1 := hide h1; have H2 := hide h2; clear h1 h2)
      | fail)
    go_returns
    rw [HN.out]
    exact ⟨rfl, _, S', D', H1.out.mono (by omega), H2.out.ahead HB.out fun k hk => .inl hk⟩
  · rw [if_neg h0] at hN
    by_cases hlt : done < St.cnt L e
    · rw [if_pos hlt] at hN
      have HN := hide hN
      have HR := hide (fun W => range_in nm L e done (U (Crc.sum b)) (by omega) hi.he hm hlt W)
      have hje := St.cnt_below (by have := hi.he; omega) hlt
      have hcl := hi.arg.le
      have hct := fun W => run_cut_lh W A L c (done * e) (min (done * e + e) L) (by omega) (by omega)
      have hpl : (St.piece b e done).length = min (done * e + e) L - done * e := by rw [St.piece_len, hL]; omega
      have hPA : Arg w (cutA A c (done * e)) (c - done * e) (St.piece b e done) := (hi.arg.cut (done * e) (by omega)).first e
      have hPx : ∀ x o, cutA A c (done * e) = some ⟨x, o, none⟩ → St.piece b e done ≠ [] → ¬ S x ∧ ¬ x = cb := fun x o hx hne => by
        have hb0 : b ≠ [] := fun e0 => hne (by rw [e0]; simp [St.piece])
        unfold cutA at hx
        split at hx
        · exact hi.apart x o hx hb0
        · rcases A with _ | ⟨g, q, sp⟩
          · cases hx
          · rcases hi.arg.reads with h1 | ⟨g', q', e1, -⟩
            · exact absurd h1 hb0
            · have hg : g = g' := by injection e1 with e1; injection e1
              have hsp : sp = none := by injection e1 with e1; injection e1
              subst hsp
              have hgx : g = x := by simp [Addr.add_lit] at hx; exact hx.1
              exact hgx ▸ hi.apart g q rfl hb0
      have hdw : IntKind.i64.wrap ((done : Int) + 1) = ((done + 1 : Nat) : Int) := by rw [IntWalk.i64_in _ (by omega)]; omega
      have HP := hide (fun (W : World) (hW : Below w.heap.size w W) => (h.grow hW).part p hi.hs hi.ht (by have := hi.hn; omega) id hid (done : Nat) (by omega) (cutA A c (done * e)) (min (done * e + e) L - done * e) (c - done * e) (St.piece b e done) (hPA.below hW (Nat.le_refl _)) hpl (by omega) hPx)
      have h0b : (id == 0) = false := by simpa using h0
      clear hf h hi hN hje hpl hPA hPx hcl
      obtain ⟨pc, hpc⟩ : ∃ pc, St.piece b e done = pc := ⟨_, rfl⟩
      rw [hpc] at HN HP
      generalize min (done * e + e) L = hi2 at *
      generalize done * e = lo at *
      generalize cutA A c lo = A2 at *
      generalize hi2 - lo = pl at *
      generalize c - lo = c2 at *
      generalize St.cnt L e = m at *
      clear hpc hlt hd hm
      go_enter Tryz.func20, Tryz.ntmps20
      go_wp2_with (first
        | (go_at_call 29; refine (HR.out _).mono ?_; rintro x w2 ⟨rfl, hb⟩; have HB := hide ((balloc (Below.refl w.heap.size w) _).trans (hb.mono (by simp))); clear hb)
        | (go_at_call 30; refine (HP.out _ HB.out).mono ?_; rintro x w3 ⟨rfl, S', D', h1, h2⟩; have H1 := hide h1; have H2 := hide h2; clear h1 h2)
        | fail)
      go_returns
      rw [HN.out]
      exact ⟨by push_cast; rfl, _, S', D', H1.out.mono (by omega), H2.out.ahead HB.out fun k hk => .inl hk⟩
    · rw [if_neg hlt] at hN
      have HN := hide hN
      have HR := hide (fun W => range_out nm L e (U (Crc.sum b)) (done : Int) (.inr (by omega)) W)
      have HP := hide (fun (W : World) (hW : Below w.heap.size w W) => (h.grow hW).comp p hi.hs hi.tabs hi.ht (by have := hi.hn; omega) id hid (St.cnt L e : Nat) (by omega) nm (by have := hi.hk; omega) (L : Int) (U (Crc.sum b)) (St.Few b id) (fun _ q => q.comp) (fun _ q => q.sum (by omega)) hf)
      have h0b : (id == 0) = false := by simpa using h0
      clear hf h hi hN hd hlt
      generalize St.cnt L e = m at *
      generalize U (Crc.sum b) = sm at *
      go_enter Tryz.func20, Tryz.ntmps20
      go_wp2_with (first
        | (go_at_call 29; refine (HR.out _).mono ?_; rintro x w2 ⟨rfl, hb⟩; obtain ⟨c0, c1, c2, c3, c4, hb⟩ := blk5 hb; have HB := hide hb; clear hb)
        | (go_at_call 31; refine (HP.out _ HB.out).mono ?_; rintro x w3 ⟨rfl, S', D', h1, h2⟩; have H1 := hide h1; have H2 := hide h2; clear h1 h2)
        | fail)
      go_returns
      rw [HN.out]
      exact ⟨rfl, _, S', D', H1.out, H2.out.ahead HB.out fun k hk => .inl hk⟩
theorem St.ccomp_in {E : Nat → Prop} [hE : Told E] (t : Nat) (id l : Int) (k : St.Nm) (size sum : Int) (s : St.S) (j : Nat) (h : (St.ccomp t id l k size sum s).r = some j) : E j := by
  have h1 : ∀ j, (St.again (St.bareOf fun s => s.ask () (St.S.compF id l)) t s).r = some j → E j := fun j hj => St.agn_in (E := E) (St.err_in (E := E) hE.e10 () _ (St.comp_in (E := E) hE.e4 hE.e6 id l)) t none s (by simp) j hj
  unfold St.ccomp at h
  split at h
  · simp only at h
    split at h
    · injection h with h; exact h ▸ hE.e6
    · exact St.chead_lt t k _ j h
  · exact h1 j h
theorem St.nxt_in {E : Nat → Prop} [hE : Told E] {t : Nat} {nm : St.Nm} {b : List UInt8} {e : Nat} {s : St.S} {id : Int} {done : Nat} (j : Nat) (h : (St.nxt t nm b e s id done).r = some j) : E j := by
  unfold St.nxt at h
  split at h
  · exact St.agn_in (E := E) (f := St.askOf fun s => s.ask 0 (St.S.startF nm)) (fun x => St.err_in (E := E) hE.e10 0 _ (St.start_in (E := E) hE.e5 nm) x.1) t none (s, 0) (by simp) j h
  · split at h
    · exact St.agn_in (E := E) (St.err_in (E := E) hE.e10 () _ (St.part_in (E := E) hE.e4 hE.e6 id _ _)) t none s (by simp) j h
    · exact St.ccomp_in t id _ _ _ _ s j h

set_option maxRecDepth 100000 in
set_option maxHeartbeats 1000000 in
theorem paStep_any {E : Nat → Prop} [hE : Told E] {w0 w : World} {S D : Nat → Prop} {sb cb t n : Nat} {a : Int} {s : St.S} {p : Nat → Addr} {nm : List UInt8} {A : Option Addr} {c L : Nat} {b : List UInt8} {e : Nat} (h : CaS w0 S D sb cb t a s n w) (hi : PaIn E w0 S cb t n p nm A c L b e w)
    (id : Int) (hid : -9223372036854775808 ≤ id ∧ id ≤ 9223372036854775807) (done : Nat) (hd : done ≤ St.cnt L e) (hf : St.Few b id s) (N : St.Nx) (hN : N = St.nxt t nm b e s id done) :
    Calls Tryz.prog 10 #[.pointer (some ⟨cb, 0, none⟩), planV nm L (U (Crc.sum b)) e (St.cnt L e : Nat), .slice A L c, .int .i64 id, .int .i64 done] w fun x w' => x = .returned (.tuple #[.int .i64 (N.tA id), .int .i64 (N.tB done : Nat), .bool N.tO, errR p N.tE]) ∧ ∃ a' S' D', CaS w0 S' D' sb cb t a' N.st (n + t + t) w' ∧ CaGo S D (fun k => k = cb) S' D' w w' := by
  have hm := hi.hc
  have HX := hide (fun (W : World) (hW : Below w.heap.size w W) => paNext_any (h.grow hW) (hi.grow hW) id hid done hd hf N hN)
  have HF := hide (fun W => fits_any nm L e (U (Crc.sum b)) (by have := hi.few; omega) hi.he hm W)
  have hj := fun j (hj : N.r = some j) => St.nxt_in (E := E) j (hN ▸ hj)
  have HJ := hide hj
  have HS := hide (fun (W : World) (hW : Below w0.heap.size w0 W) => hi.hs.below hW)
  have h1 : ¬ ((done : Int) < 0) := by omega
  have h2 : ¬ ((St.cnt L e : Int) < (done : Int)) := by omega
  clear h hi hf hj hid hN hd
  generalize St.cnt L e = m at *
  generalize U (Crc.sum b) = sm at *
  rcases hr : N.r with _ | j
  · obtain ⟨z1, z2, z3, z4⟩ := St.Nx.fine hr id done
    rw [z1, z2, z3, z4]
    rw [hr] at HX
    clear z1 z2 z3 z4 hr HJ
    unfold errR at *
    go_enter Tryz.func10, Tryz.ntmps10
    go_wp2_with (first
      | (go_at_call 19; refine (HF.out _).mono ?_; rintro x w2 ⟨rfl, hb⟩; obtain ⟨c0, c1, c2, c3, c4, hb⟩ := blk5 hb; have HB := hide hb; clear hb)
      | (go_at_call 20; refine (HX.out _ HB.out).mono ?_; rintro x w3 ⟨rfl, a', S', D', h1, h2⟩; have H1 := hide h1; have H2 := hide h2; clear h1 h2)
      | fail)
    go_returns
    exact ⟨rfl, _, S', D', H1.out, H2.out.ahead HB.out fun k hk => .inl hk⟩
  · by_cases hj6 : j = 6
    · subst hj6
      obtain ⟨z1, z2, z3, z4⟩ := St.Nx.gone hr id done
      rw [z1, z2, z3, z4]
      rw [hr] at HX
      have k1 := fun W => eql_same (p 6) W
      have k2 := eql_nil (p 6)
      clear z1 z2 z3 z4 hr HJ
      unfold errR errV at *
      go_enter Tryz.func10, Tryz.ntmps10
      go_wp2_with (first
        | (go_at_call 19; refine (HF.out _).mono ?_; rintro x w2 ⟨rfl, hb⟩; obtain ⟨c0, c1, c2, c3, c4, hb⟩ := blk5 hb; have HB := hide hb; clear hb)
        | (go_at_call 20; refine (HX.out _ HB.out).mono ?_; rintro x w3 ⟨rfl, a', S', D', h1, h2⟩; have H1 := hide h1; have H2 := hide h2; have g6 : w3.cell? ⟨2, 0, none⟩ = some (errV (p 6)) := (HS.out w3 h1.st.below).cell 6 hE.e6; unfold errV at g6; clear h1 h2)
        | fail)
      go_returns
      exact ⟨rfl, _, S', D', H1.out, H2.out.ahead HB.out fun k hk => .inl hk⟩
    · obtain ⟨z1, z2, z3, z4⟩ := St.Nx.bad hr hj6 id done
      rw [z1, z2, z3, z4]
      have hj19 := HJ.out j hr
      rw [hr] at HX
      have K1 := hide (fun (W : World) (hw2 : Below w0.heap.size w0 W) => eql_other (p j) (p 6) W ((HS.out W hw2).ne j 6 hj19 hE.e6 hj6) ((HS.out W hw2).blk j hj19).2 ((HS.out W hw2).blk 6 hE.e6).2)
      have k2 := eql_nil (p j)
      clear z1 z2 z3 z4 hr HJ hj6
      unfold errR errV at *
      go_enter Tryz.func10, Tryz.ntmps10
      go_wp2_with (first
        | (go_at_call 19; refine (HF.out _).mono ?_; rintro x w2 ⟨rfl, hb⟩; obtain ⟨c0, c1, c2, c3, c4, hb⟩ := blk5 hb; have HB := hide hb; clear hb)
        | (go_at_call 20; refine (HX.out _ HB.out).mono ?_; rintro x w3 ⟨rfl, a', S', D', h1, h2⟩; have H1 := hide h1; have H2 := hide h2; have k1 := K1.out w3 h1.st.below; have g6 : w3.cell? ⟨2, 0, none⟩ = some (errV (p 6)) := (HS.out w3 h1.st.below).cell 6 hE.e6; unfold errV at g6; clear h1 h2)
        | fail)
      go_returns
      exact ⟨rfl, _, S', D', H1.out, H2.out.ahead HB.out fun k hk => .inl hk⟩
set_option maxRecDepth 100000 in
/-- A Step of other bytes, or of a number that may not be. -/
theorem paStep_bad {E : Nat → Prop} [hE : Told E] {w0 w : World} {p : Nat → Addr} (hs : SentsOn E w0 p) (hb : Below w0.heap.size w0 w) (cv : Value) (nm : List UInt8) (L e m : Nat) (sm : Int) (A : Option Addr) (c l : Nat) (id dn : Int) (hbad : l ≠ L ∨ dn < 0 ∨ (m : Int) < dn) :
    Calls Tryz.prog 10 #[cv, planV nm L sm e m, .slice A l c, .int .i64 id, .int .i64 dn] w fun x w' => x = .returned (.tuple #[.int .i64 id, .int .i64 dn, .bool false, errR p (some 4)]) ∧ Below w.heap.size w w' := by
  have g4 : ∀ o, (w.alloc o).cell? ⟨0, 0, none⟩ = some (errV (p 4)) := fun o => (hs.below (balloc hb o)).cell 4 hE.e4
  clear hs hb
  unfold errR errV at *
  by_cases h1 : l = L
  · subst h1
    by_cases h2 : dn < 0
    · clear hbad
      go_enter Tryz.func10, Tryz.ntmps10
      go_wp2_with fail
      go_quiet (fail)
      go_wp2_with fail
      go_returns
      exact ⟨rfl, below_drewN (balloc (Below.refl _ _) _) _⟩
    · have h3 : (m : Int) < dn := by omega
      clear hbad
      go_enter Tryz.func10, Tryz.ntmps10
      go_wp2_with fail
      go_quiet (fail)
      go_wp2_with fail
      go_returns
      exact ⟨rfl, below_drewN (balloc (Below.refl _ _) _) _⟩
  · have h2 : ((l : Int) != (L : Int)) = true := by simp; omega
    clear hbad h1
    go_enter Tryz.func10, Tryz.ntmps10
    go_wp2_with fail
    go_quiet (fail)
    go_wp2_with fail
    go_returns
    exact ⟨rfl, below_drewN (balloc (Below.refl _ _) _) _⟩
end Go.Proofs.YtegaahcelogmlaaGreatDoor

namespace Go.Proofs.YtegaahcelogmlaaGreatDoor
open Go.RowKit Go.Maps

theorem count_bad {E : Nat → Prop} {w : World} {p : Nat → Addr} (hs : SentsOn E w p) (h3 : E 3) (h4 : E 4) (n : Nat) (e : Int) (hn : n ≤ 1000000) (j : Nat) (hj : (j = 4 ∧ (e < 1 ∨ 1048576 < e)) ∨ (j = 3 ∧ 1 ≤ e ∧ e ≤ 1048576 ∧ 256 < St.cnt n e.toNat)) :
    Calls Tryz.prog 17 #[.int .i64 n, .int .i64 e] w fun x w' => x = .returned (.tuple #[.int .i64 0, errR p (some j)]) ∧ Below w.heap.size w w' := by
  have g3 := hs.cell 3 h3
  have g4 := hs.cell 4 h4
  change w.cell? ⟨3, 0, none⟩ = some (errV (p 3)) at g3
  change w.cell? ⟨0, 0, none⟩ = some (errV (p 4)) at g4
  have h1 : ¬ ((n : Int) < 0) := by omega
  unfold errR errV at *
  rcases hj with ⟨rfl, he⟩ | ⟨rfl, he1, he2, hc⟩
  · clear hs g3
    by_cases h2 : e < 1
    · clear he
      go_enter Tryz.func17, Tryz.ntmps17
      go_wp2_with fail
      go_quiet (fail)
      go_wp2_with fail
      go_returns
      exact ⟨rfl, below_drewN (Below.refl _ _) _⟩
    · have h3 : (1048576 : Int) < e := by omega
      clear he
      go_enter Tryz.func17, Tryz.ntmps17
      go_wp2_with fail
      go_quiet (fail)
      go_wp2_with fail
      go_returns
      exact ⟨rfl, below_drewN (Below.refl _ _) _⟩
  · obtain ⟨e, rfl⟩ := Int.eq_ofNat_of_zero_le (show 0 ≤ e by omega)
    rw [Int.toNat_natCast] at hc
    clear hs g4
    have hq : (n : Int).tdiv (e : Int) = ((n / e : Nat) : Int) := rfl
    have hr : (n : Int).tmod (e : Int) = ((n % e : Nat) : Int) := rfl
    have h0 : (e : Int) ≠ 0 := by omega
    have h2 : ¬ ((e : Int) < 1) := by omega
    have h3 : ¬ ((1048576 : Int) < (e : Int)) := by omega
    have hle : n / e ≤ 1000000 := Nat.le_trans (Nat.div_le_self n e) hn
    obtain ⟨k, hk⟩ : ∃ k, St.cnt n e = k := ⟨_, rfl⟩
    rw [hk] at hc
    unfold St.cnt at hk
    generalize n / e = x at *
    generalize n % e = r at *
    have wx := wrap_nat x (by omega)
    have hk3 : (256 : Int) < (k : Int) := by omega
    by_cases hp : 0 < r
    · rw [if_pos hp] at hk
      have hp2 : (0 : Int) < (r : Int) := by omega
      have hx1 : IntKind.i64.wrap ((x : Int) + 1) = (k : Int) := by rw [IntWalk.i64_in _ (by omega)]; omega
      clear hk
      go_enter Tryz.func17, Tryz.ntmps17
      go_wp2_with fail
      go_quiet (fail)
      go_wp2_with fail
      go_returns
      exact ⟨rfl, below_drewN (Below.refl _ _) _⟩
    · rw [if_neg hp] at hk
      subst hk
      have hp2 : ¬ ((0 : Int) < (r : Int)) := by omega
      go_enter Tryz.func17, Tryz.ntmps17
      go_wp2_with fail
      go_quiet (fail)
      go_wp2_with fail
      go_returns
      exact ⟨rfl, below_drewN (Below.refl _ _) _⟩

set_option maxRecDepth 100000 in
theorem paMake_any (nm : List UInt8) (hv : Dk.valid nm = true) (A : Option Addr) (c L : Nat) (b : List UInt8) (e : Nat) (w : World) (ha : Arg w A c b) (hL : b.length = L) (hL2 : L ≤ 1000) (he : 1 ≤ e ∧ e ≤ 1048576) (hc : St.cnt L e ≤ 256) (ht : Tabs w) :
    Calls Tryz.prog 8 #[encStr nm, .slice A L c, .int .i64 e] w fun x w' => x = .returned (.tuple #[planV nm L (U (Crc.sum b)) e (St.cnt L e : Nat), .nilIface]) ∧ Below w.heap.size w w' := by
  have HV := hide (fun W => nValid_any nm W)
  rw [validN_eq, hv] at HV
  have HC := hide (fun W => count_any L e (by omega) he hc W)
  have HO := hide (fun (W : World) (hW : Below w.heap.size w W) => of_at (some ⟨W.heap.size, 0, none⟩) 1 1 [⟨A, c, b⟩] _ rfl (by omega) (readsAll_one W A c b L hL (ha.below hW (Nat.le_refl _)) (by omega)) (ht.below (balloc hW _) (Nat.le_refl _)))
  rw [flat_one] at HO
  clear ha he hc ht hv
  generalize St.cnt L e = m at *
  generalize U (Crc.sum b) = sm at *
  go_enter Tryz.func8, Tryz.ntmps8
  go_upto_region 1 with fail
  have hW1 : Below w.heap.size w (w.alloc (.cells #[.string ⟨#[]⟩, .int .i64 0, .int .u32 0, .int .i64 0, .int .i64 0] 35)) := balloc (Below.refl _ _) _
  have hR : (w.alloc (.cells #[.string ⟨#[]⟩, .int .i64 0, .int .u32 0, .int .i64 0, .int .i64 0] 35)).heap[w.heap.size]? = some (.cells #[.string ⟨#[]⟩, .int .i64 0, .int .u32 0, .int .i64 0, .int .i64 0] 35 (0, 0)) := heap_alloc_new _ _
  have HW1 := hide hW1
  have HR := hide hR
  clear hW1 hR
  generalize w.alloc (.cells #[.string ⟨#[]⟩, .int .i64 0, .int .u32 0, .int .i64 0, .int .i64 0] 35) = w1 at *
  obtain ⟨Bx, hBx⟩ : ∃ Bx, Bx = w.heap.size := ⟨_, rfl⟩
  have HBX := hide hBx
  rw [← hBx] at HR ⊢
  clear hBx
  go_upto_region 6 with (first
    | (go_at_call 16; refine (HV.out _).mono ?_; rintro x w2 ⟨rfl, hb⟩; have HR2 := hide ((hb.block Bx (Array.getElem?_eq_some_iff.1 HR.out).1).trans HR.out); have HB := hide (HW1.out.trans (hb.mono HW1.out.size)); clear hb)
    | (go_at_call 17; refine (HC.out _).mono ?_; rintro x w3 ⟨rfl, rfl⟩)
    | fail)
  go_wp2_with (first
    | (go_at_call 18; refine (HO.out w3 HB.out).mono ?_; rintro x w4 ⟨rfl, q, hq⟩; have HB4 := hide (show Below w.heap.size w w4 from hq ▸ below_drewN (balloc HB.out _) _); have hR4 : w4.heap[Bx]? = _ := ((hq ▸ below_drewN (balloc (Below.refl w3.heap.size w3) _) _ : Below w3.heap.size w3 w4).block Bx (Array.getElem?_eq_some_iff.1 HR2.out).1).trans HR2.out; have c0 := box_cell hR4 0; have c1 := box_cell hR4 1; have c2 := box_cell hR4 2; have c3 := box_cell hR4 3; have c4 := box_cell hR4 4; have f0 := box_free hR4 0; have f1 := box_free hR4 1; have f2 := box_free hR4 2; have f3 := box_free hR4 3; have f4 := box_free hR4 4; have HR4 := hide hR4; clear hq hR4)
    | fail)
  have hF := heap_set (heap_set (heap_set (heap_set (heap_set HR4.out 0 (encStr nm)) 1 (.int .i64 (L : Int))) 2 (.int .u32 sm)) 3 (.int .i64 (e : Int))) 4 (.int .i64 (m : Int))
  have s0 := box_cell hF 0
  have s1 := box_cell hF 1
  have s2 := box_cell hF 2
  have s3 := box_cell hF 3
  have s4 := box_cell hF 4
  simp at s0 s1 s2 s3 s4
  have hbx := HBX.out
  have HF := hide (show Below w.heap.size w (((((w4.setCell ⟨Bx, 0, none⟩ (encStr nm)).setCell ⟨Bx, 1, none⟩ (.int .i64 (L : Int))).setCell ⟨Bx, 2, none⟩ (.int .u32 sm)).setCell ⟨Bx, 3, none⟩ (.int .i64 (e : Int))).setCell ⟨Bx, 4, none⟩ (.int .i64 (m : Int))) from hbx ▸ bset (bset (bset (bset (bset HB4.out _ _) _ _) _ _) _ _) _ _)
  clear hF hbx
  refine bodyPost_ret (v := .tuple #[planV nm L sm e m, .nilIface]) (by simp [results, Tryz.results8, go_sem, s0, s1, s2, s3, s4]) rfl ⟨rfl, HF.out⟩
theorem bset0 {b : Nat} {a w : World} (hb : b = a.heap.size) (h : Below a.heap.size a w) (i : Nat) (v : Value) : Below a.heap.size a (w.setCell ⟨b, i, none⟩ v) := hb ▸ bset h i v

theorem plan_set {w : World} {g : Nat} {a b c d e : Value} {t : TypeId} (h : w.heap[g]? = some (.cells #[a, b, c, d, e] t (0, 0))) (v0 v1 v2 v3 v4 : Value) :
    (((((w.setCell ⟨g, 0, none⟩ v0).setCell ⟨g, 1, none⟩ v1).setCell ⟨g, 2, none⟩ v2).setCell ⟨g, 3, none⟩ v3).setCell ⟨g, 4, none⟩ v4).cell? ⟨g, 0, none⟩ = some v0 ∧ (((((w.setCell ⟨g, 0, none⟩ v0).setCell ⟨g, 1, none⟩ v1).setCell ⟨g, 2, none⟩ v2).setCell ⟨g, 3, none⟩ v3).setCell ⟨g, 4, none⟩ v4).cell? ⟨g, 1, none⟩ = some v1 ∧ (((((w.setCell ⟨g, 0, none⟩ v0).setCell ⟨g, 1, none⟩ v1).setCell ⟨g, 2, none⟩ v2).setCell ⟨g, 3, none⟩ v3).setCell ⟨g, 4, none⟩ v4).cell? ⟨g, 2, none⟩ = some v2 ∧ (((((w.setCell ⟨g, 0, none⟩ v0).setCell ⟨g, 1, none⟩ v1).setCell ⟨g, 2, none⟩ v2).setCell ⟨g, 3, none⟩ v3).setCell ⟨g, 4, none⟩ v4).cell? ⟨g, 3, none⟩ = some v3 ∧ (((((w.setCell ⟨g, 0, none⟩ v0).setCell ⟨g, 1, none⟩ v1).setCell ⟨g, 2, none⟩ v2).setCell ⟨g, 3, none⟩ v3).setCell ⟨g, 4, none⟩ v4).cell? ⟨g, 4, none⟩ = some v4 := by
  have hF := heap_set (heap_set (heap_set (heap_set (heap_set h 0 v0) 1 v1) 2 v2) 3 v3) 4 v4
  have s0 := box_cell hF 0
  have s1 := box_cell hF 1
  have s2 := box_cell hF 2
  have s3 := box_cell hF 3
  have s4 := box_cell hF 4
  simp at s0 s1 s2 s3 s4
  exact ⟨s0, s1, s2, s3, s4⟩
set_option maxRecDepth 100000 in
theorem paMake_bad {E : Nat → Prop} (nm : List UInt8) (A : Option Addr) (c L : Nat) (e : Int) (w : World) (hL2 : L ≤ 1000) {p : Nat → Addr} (hs : SentsOn E w p) (h3 : E 3) (h4 : E 4) (h5 : E 5) (j : Nat)
    (hj : (Dk.valid nm = false ∧ j = 5) ∨ (Dk.valid nm = true ∧ ((j = 4 ∧ (e < 1 ∨ 1048576 < e)) ∨ (j = 3 ∧ 1 ≤ e ∧ e ≤ 1048576 ∧ 256 < St.cnt L e.toNat)))) :
    Calls Tryz.prog 8 #[encStr nm, .slice A L c, .int .i64 e] w fun x w' => x = .returned (.tuple #[planV [] 0 0 0 0, errR p (some j)]) ∧ Below w.heap.size w w' := by
  have HV := hide (fun W => nValid_any nm W)
  rw [validN_eq] at HV
  have hW1 : Below w.heap.size w (w.alloc (.cells #[.string ⟨#[]⟩, .int .i64 0, .int .u32 0, .int .i64 0, .int .i64 0] 35)) := balloc (Below.refl _ _) _
  have hR : (w.alloc (.cells #[.string ⟨#[]⟩, .int .i64 0, .int .u32 0, .int .i64 0, .int .i64 0] 35)).heap[w.heap.size]? = some (.cells #[.string ⟨#[]⟩, .int .i64 0, .int .u32 0, .int .i64 0, .int .i64 0] 35 (0, 0)) := heap_alloc_new _ _
  have HW1 := hide hW1
  have HR := hide hR
  have HS := hide (fun (W : World) (hW : Below w.heap.size w W) => hs.below hW)
  rcases hj with ⟨hv, rfl⟩ | ⟨hv, hj⟩
  · rw [hv] at HV
    have g5l : 1 < w.heap.size := hs.size 5 h5
    clear hs hW1 hR
    unfold errR
    go_enter Tryz.func8, Tryz.ntmps8
    go_upto_region 1 with fail
    generalize w.alloc (.cells #[.string ⟨#[]⟩, .int .i64 0, .int .u32 0, .int .i64 0, .int .i64 0] 35) = w1 at *
    obtain ⟨Bx, hBx⟩ : ∃ Bx, Bx = w.heap.size := ⟨_, rfl⟩
    have HBX := hide hBx
    rw [← hBx] at HR g5l ⊢
    clear hBx
    go_upto_region 2 with (first
      | (go_at_call 16; refine (HV.out _).mono ?_; rintro x w2 ⟨rfl, hb⟩; have hR2 := (hb.block Bx (Array.getElem?_eq_some_iff.1 HR.out).1).trans HR.out; have hb2 := HW1.out.trans (hb.mono HW1.out.size); have HB := hide hb2; have g5 := (HS.out w2 hb2).cell 5 h5; clear hb hb2)
      | fail)
    change w2.cell? ⟨1, 0, none⟩ = some (errV (p 5)) at g5
    have HR2 := hide hR2
    have f0 := box_free hR2 0
    have f1 := box_free hR2 1
    have f2 := box_free hR2 2
    have f3 := box_free hR2 3
    have f4 := box_free hR2 4
    have c0 := box_cell hR2 0
    have c1 := box_cell hR2 1
    have c2 := box_cell hR2 2
    have c3 := box_cell hR2 3
    have c4 := box_cell hR2 4
    simp at c0 c1 c2 c3 c4
    unfold errV at g5
    have gs : ∀ i v (W : World), W.cell? ⟨1, 0, none⟩ = w2.cell? ⟨1, 0, none⟩ → (W.setCell ⟨Bx, i, none⟩ v).cell? ⟨1, 0, none⟩ = w2.cell? ⟨1, 0, none⟩ := fun i v W h => (World.cell?_setCell_other _ _ _ _ (by intro e; injection e with e; omega)).trans h
    have g5' := (gs 4 (.int .i64 0) _ (gs 3 (.int .i64 0) _ (gs 2 (.int .u32 0) _ (gs 1 (.int .i64 0) _ (gs 0 (.string ⟨#[]⟩) w2 rfl))))).trans g5
    clear gs
    go_region
    go_wp2_with fail
    obtain ⟨s0, s1, s2, s3, s4⟩ := plan_set HR2.out (.string ⟨#[]⟩) (.int .i64 0) (.int .u32 0) (.int .i64 0) (.int .i64 0)
    have HF := hide (show Below w.heap.size w ((((((w2.setCell ⟨Bx, 0, none⟩ (.string ⟨#[]⟩)).setCell ⟨Bx, 1, none⟩ (.int .i64 0)).setCell ⟨Bx, 2, none⟩ (.int .u32 0)).setCell ⟨Bx, 3, none⟩ (.int .i64 0)).setCell ⟨Bx, 4, none⟩ (.int .i64 0)).drew) from (bset0 HBX.out (bset0 HBX.out (bset0 HBX.out (bset0 HBX.out (bset0 HBX.out HB.out _ _) _ _) _ _) _ _) _ _).drew)
    refine bodyPost_ret (v := .tuple #[planV [] 0 0 0 0, .iface 158 (.pointer (some (p 5)))]) (by simp [results, Tryz.results8, go_sem, s0, s1, s2, s3, s4]) rfl ⟨rfl, HF.out⟩
  · rw [hv] at HV
    have HC := hide (fun (W : World) (hW : Below w.heap.size w W) => count_bad (hs.below hW) h3 h4 L e (by omega) j hj)
    clear hs hW1 hR hj
    have k2 := fun W => neq_nilD (p j) W
    unfold errR
    go_enter Tryz.func8, Tryz.ntmps8
    go_upto_region 1 with fail
    generalize w.alloc (.cells #[.string ⟨#[]⟩, .int .i64 0, .int .u32 0, .int .i64 0, .int .i64 0] 35) = w1 at *
    obtain ⟨Bx, hBx⟩ : ∃ Bx, Bx = w.heap.size := ⟨_, rfl⟩
    have HBX := hide hBx
    rw [← hBx] at HR ⊢
    clear hBx
    unfold errR errV at *
    go_wp2_with (first
      | (go_at_call 16; refine (HV.out _).mono ?_; rintro x w2 ⟨rfl, hb⟩; have HR2 := hide ((hb.block Bx (Array.getElem?_eq_some_iff.1 HR.out).1).trans HR.out); have HB := hide (HW1.out.trans (hb.mono HW1.out.size)); clear hb)
      | (go_at_call 17; refine (HC.out w2 HB.out).mono ?_; rintro x w3 ⟨rfl, hb⟩; have hR3 := (hb.block Bx (Array.getElem?_eq_some_iff.1 HR2.out).1).trans HR2.out; have HB3 := hide (HB.out.trans (hb.mono HB.out.size)); have HR3 := hide hR3; have f0 := box_free hR3 0; have f1 := box_free hR3 1; have f2 := box_free hR3 2; have f3 := box_free hR3 3; have f4 := box_free hR3 4; have c0 := box_cell hR3 0; have c1 := box_cell hR3 1; have c2 := box_cell hR3 2; have c3 := box_cell hR3 3; have c4 := box_cell hR3 4; clear hb hR3)
      | fail)
    obtain ⟨s0, s1, s2, s3, s4⟩ := plan_set HR3.out (.string ⟨#[]⟩) (.int .i64 0) (.int .u32 0) (.int .i64 0) (.int .i64 0)
    have HF := hide (show Below w.heap.size w (((((w3.setCell ⟨Bx, 0, none⟩ (.string ⟨#[]⟩)).setCell ⟨Bx, 1, none⟩ (.int .i64 0)).setCell ⟨Bx, 2, none⟩ (.int .u32 0)).setCell ⟨Bx, 3, none⟩ (.int .i64 0)).setCell ⟨Bx, 4, none⟩ (.int .i64 0)) from bset0 HBX.out (bset0 HBX.out (bset0 HBX.out (bset0 HBX.out (bset0 HBX.out HB3.out _ _) _ _) _ _) _ _) _ _)
    refine bodyPost_ret (v := .tuple #[planV [] 0 0 0 0, .iface 158 (.pointer (some (p j)))]) (by simp [results, Tryz.results8, go_sem, s0, s1, s2, s3, s4]) rfl ⟨rfl, HF.out⟩
end Go.Proofs.YtegaahcelogmlaaGreatDoor
