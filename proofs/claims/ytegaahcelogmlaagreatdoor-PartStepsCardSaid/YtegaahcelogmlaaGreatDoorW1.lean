/-
  The chapter's example: first(); CallEnds, walked.
  CallTwice, plainly: what is done but once.
  CallEnds, walked.
  CallTwice, walked.
  Steps of an upload in parts over a store that answers, plainly.
  A plan beside its store and client: what a Step stands on, what it leaves of the plan.
-/
import Derived.Test.YtegaahcelogmlaaGreatDoorU1
import Derived.Test.YtegaahcelogmlaaGreatDoorT4
import Derived.Test.YtegaahcelogmlaaGreatDoorR3
import Derived.Test.YtegaahcelogmlaaGreatDoorV2
import Derived.Test.YtegaahcelogmlaaGreatDoorV3
namespace Go.Proofs.YtegaahcelogmlaaGreatDoor.St

/-- A new store whose next outcomes are so many of one kind. -/
def sE (i : Nat) (o : Int) : S := { S.new with script := List.replicate i o }
theorem sE_zero (o : Int) : S.new = sE 0 o := rfl
theorem sE_more (i : Nat) (o : Int) : (sE i o).scripted [o] = sE (i + 1) o := by
  simp [sE, S.scripted, S.new, ← List.replicate_succ']
theorem cput_of (k : Nm) (hk : Dk.valid k = true) (b : List UInt8) (o : Int) (ho : BadO o) (t m : Nat) (ht : 0 < t) (s : S) (hs : s.script = List.replicate m o) :
    (cput t k b s).r = (if m < t then none else some 10) ∧ (cput t k b s).k = min (m + 1) t ∧ (cput t k b s).st.objs k = (if m < t ∨ o = 2 then some b else s.objs k) := by
  obtain ⟨h1, h2, h3⟩ := put_rep k hk b o ho t m none s hs
  obtain ⟨q1, q2, q3, q4⟩ := agn_lead (asks_bare (put_mild k b)) t none s
  rw [hs, lead_rep o ho] at q1
  refine ⟨?_, ?_, ?_⟩
  · by_cases h : m < t
    · rw [if_pos h]; exact h1 h
    · rw [if_neg h]; exact h2 (by omega) (.inl ht)
  · show (agn _ t none s).k = _
    rw [q1]; split <;> omega
  · show (agn _ t none s).st.objs k = _
    rw [h3]
    simp [ht]
end Go.Proofs.YtegaahcelogmlaaGreatDoor.St
namespace Go.Proofs.YtegaahcelogmlaaGreatDoor
open Go.RowKit Go.Maps

end Go.Proofs.YtegaahcelogmlaaGreatDoor

namespace Go.Proofs.YtegaahcelogmlaaGreatDoor.St

theorem out_free {s : S} (h : s.script = []) : s.out = 0 := by simp [S.out, h]
theorem bare_free {g : S → (Unit × Option Nat) × S} {n : Nat} {last : Option Nat} {s : S} (h : s.script = []) (hr : (g s.took).1.2 ≠ some 10) : agn (bareOf fun s => s.ask () g) (n + 1) last s = ⟨(g s.took).1.2, 1, (g s.took).2⟩ := by
  have e : bareOf (fun s => s.ask () g) s = ((g s.took).1.2, (g s.took).2) := by simp [bareOf, S.ask, out_free h]
  rw [agn_stop (by rw [e]; exact hr), e]
theorem ask_freeC {α : Type} {z : α} {g : S → (α × Option Nat) × S} {n : Nat} {last : Option Nat} {x : S × α} (h : x.1.script = []) (hr : (g x.1.took).1.2 ≠ some 10) : agn (askOf fun s => s.ask z g) (n + 1) last x = ⟨(g x.1.took).1.2, 1, ((g x.1.took).2, (g x.1.took).1.1)⟩ := by
  have e : askOf (fun s => s.ask z g) x = ((g x.1.took).1.2, ((g x.1.took).2, (g x.1.took).1.1)) := by simp [askOf, S.ask, out_free h]
  rw [agn_stop (by rw [e]; exact hr), e]
/-- The parts of an upload that has one. -/
def oneP (b : List UInt8) : Int → Option (List UInt8) := upd (fun _ => none) 0 (some b)
/-- What the statement lays ahead of the outcomes. -/
structure AtT (b : List UInt8) (s : S) : Prop where
  obj : s.objs [120] = some b
  up : s.ups 1 = some ⟨[121], oneP b⟩
theorem t_put (b : List UInt8) : (cput 5 [120] b S.new).r = none ∧ (cput 5 [120] b S.new).st.script = [] ∧ (cput 5 [120] b S.new).st.objs [120] = some b ∧ (cput 5 [120] b S.new).st.last = 0 ∧ (cput 5 [120] b S.new).st.ups = fun _ => none := by
  have hv : Dk.valid [120] = true := by decide
  have e : S.putF [120] b S.new.took = (((), none), { S.new.took with objs := upd S.new.took.objs [120] (some b) }) := by unfold S.putF; rw [if_pos hv]
  unfold cput again
  rw [bare_free (n := 4) rfl (by rw [e]; simp), e]
  exact ⟨rfl, rfl, by simp [upd], rfl, rfl⟩
theorem t_start (b : List UInt8) (s : S) (h1 : s.script = []) (h2 : s.objs [120] = some b) (h3 : s.last = 0) : (cstart 5 [121] s).r = none ∧ (cstart 5 [121] s).st.2 = 1 ∧ (cstart 5 [121] s).st.1.script = [] ∧ (cstart 5 [121] s).st.1.objs [120] = some b ∧ (cstart 5 [121] s).st.1.ups 1 = some ⟨[121], fun _ => none⟩ := by
  have hv : Dk.valid [121] = true := by decide
  have hl : s.took.last = 0 := h3
  have e : S.startF [121] s.took = ((1, none), { s.took with last := 1, ups := upd s.took.ups 1 (some ⟨[121], fun _ => none⟩) }) := by
    unfold S.startF; rw [if_pos hv, hl]; rfl
  unfold cstart again
  rw [ask_freeC (n := 4) (x := (s, 0)) h1 (by simp only [e]; simp)]
  simp only [e]
  exact ⟨trivial, trivial, by simp [S.took, h1], h2, by simp [upd]⟩
theorem t_part (b : List UInt8) (s : S) (h1 : s.script = []) (h2 : s.objs [120] = some b) (h3 : s.ups 1 = some ⟨[121], fun _ => none⟩) : (again (bareOf fun s => s.ask () (S.partF 1 0 b)) 5 s).r = none ∧ (again (bareOf fun s => s.ask () (S.partF 1 0 b)) 5 s).st.script = [] ∧ AtT b (again (bareOf fun s => s.ask () (S.partF 1 0 b)) 5 s).st := by
  have hu : s.took.ups 1 = some ⟨[121], fun _ => none⟩ := h3
  have e : S.partF 1 0 b s.took = (((), none), { s.took with ups := upd s.took.ups 1 (some ⟨[121], oneP b⟩) }) := by
    unfold S.partF; rw [hu]; simp [oneP]
  unfold again
  rw [bare_free (n := 4) h1 (by rw [e]; simp), e]
  exact ⟨rfl, by simp [S.took, h1], ⟨h2, by simp [upd]⟩⟩
theorem t_head (b : List UInt8) (s : S) (h1 : s.script = []) (h : AtT b s) : (s.head [120]).1 = (b, none) ∧ (s.head [120]).2.script = [] ∧ AtT b (s.head [120]).2 := by
  have ho : s.took.objs [120] = some b := h.obj
  unfold S.head S.ask
  rw [out_free h1]
  simp only [show ¬ (0 : Int) = 1 by omega, show ¬ (0 : Int) = 2 by omega, if_false, S.headF, ho]
  exact ⟨trivial, by simp [S.took, h1], ⟨h.obj, h.up⟩⟩
/-- So many answers are lost. -/
def lost (s : S) (m : Nat) : S := { s with script := List.replicate m 2 }
theorem lost_zero {s : S} (h : s.script = []) : s = lost s 0 := by cases s; simp_all [lost]
theorem lost_more (s : S) (m : Nat) : (lost s m).scripted [2] = lost s (m + 1) := by simp [lost, S.scripted, ← List.replicate_succ']
theorem taken_of {m : Nat} {A : Ag S} (hr : A.r = if m = 0 then none else some 6) (hk : A.k = m + 1) : A.taken = none := by
  unfold Ag.taken Ag.doubt
  rw [hr, hk]
  by_cases h : m = 0
  · simp [h]
  · simp [h]
theorem taken_one {A : Ag S} (hr : A.r = some 6) (hk : A.k = 1) : A.taken = some 6 := by
  unfold Ag.taken Ag.doubt; rw [hr, hk]; simp
abbrev cdel (k : Nm) (s : S) : Ag S := again (bareOf fun s => s.ask () (S.delF k)) 5 s
abbrev cabort (id : Int) (s : S) : Ag S := again (bareOf fun s => s.ask () (S.abortF id)) 5 s
theorem del_twice (b : List UInt8) (s : S) (h : AtT b s) (m : Nat) (hm : m < 5) : (cdel [120] (lost s m)).taken = none ∧ (cdel [120] (cdel [120] (lost s m)).st).taken = some 6 := by
  have h2 : ∀ t : S, t.objs [120] = none → S.delF [120] t = (((), some 6), t) := fun t ht => by unfold S.delF; rw [ht]
  obtain ⟨q1, q2, q3, q4⟩ := once_rep (g := S.delF [120]) (P := fun t => t.objs [120] = some b) (Q := fun t => t.objs [120] = none) (del_mild [120]) (fun t ht => ht) (fun t ht => ht)
    (fun t ht => by
      have e : S.delF [120] t = (((), none), { t with objs := upd t.objs [120] none }) := by unfold S.delF; rw [ht]
      rw [e]; exact ⟨rfl, by simp [upd]⟩) (fun t ht => by rw [h2 t ht]; exact ⟨rfl, ht⟩) 5 m none (lost s m) h.obj rfl hm
  refine ⟨taken_of q1 q4, ?_⟩
  have e := bare_free (g := S.delF [120]) (n := 4) (last := none) q3 (by rw [h2 _ (show ((agn _ 5 none (lost s m)).st.took).objs [120] = none from q2)]; simp)
  refine taken_one ?_ ?_
  · show (agn _ 5 none (agn _ 5 none (lost s m)).st).r = _
    rw [e, h2 _ (show ((agn _ 5 none (lost s m)).st.took).objs [120] = none from q2)]
  · show (agn _ 5 none (agn _ 5 none (lost s m)).st).k = _
    rw [e]
theorem abort_twice (b : List UInt8) (s : S) (h : AtT b s) (m : Nat) (hm : m < 5) : (cabort 1 (lost s m)).taken = none ∧ (cabort 1 (cabort 1 (lost s m)).st).taken = some 6 := by
  have h2 : ∀ t : S, t.ups 1 = none → S.abortF 1 t = (((), some 6), t) := fun t ht => by unfold S.abortF; rw [ht]
  obtain ⟨q1, q2, q3, q4⟩ := once_rep (g := S.abortF 1) (P := fun t => t.ups 1 = some ⟨[121], oneP b⟩) (Q := fun t => t.ups 1 = none) (abort_mild 1) (fun t ht => ht) (fun t ht => ht)
    (fun t ht => by
      have e : S.abortF 1 t = (((), none), { t with ups := upd t.ups 1 none }) := by unfold S.abortF; rw [ht]
      rw [e]; exact ⟨rfl, by simp [upd]⟩) (fun t ht => by rw [h2 t ht]; exact ⟨rfl, ht⟩) 5 m none (lost s m) h.up rfl hm
  refine ⟨taken_of q1 q4, ?_⟩
  have e := bare_free (g := S.abortF 1) (n := 4) (last := none) q3 (by rw [h2 _ (show ((agn _ 5 none (lost s m)).st.took).ups 1 = none from q2)]; simp)
  refine taken_one ?_ ?_
  · show (agn _ 5 none (agn _ 5 none (lost s m)).st).r = _
    rw [e, h2 _ (show ((agn _ 5 none (lost s m)).st.took).ups 1 = none from q2)]
  · show (agn _ 5 none (agn _ 5 none (lost s m)).st).k = _
    rw [e]
/-- What a Complete leaves of what it may lay together. -/
def FewP (s : S) : Prop := ∀ u, s.ups 1 = some u → ∀ n b, u.parts n = some b → b.length ≤ 100
theorem FewP.comp {s : S} (h : FewP s) : FewP (s.ask () (S.compF 1 1)).2 := by
  have h1 : ∀ t : S, FewP t → FewP (S.compF 1 1 t).2 := fun t ht => by
    unfold S.compF
    split
    · exact ht
    · split
      · exact ht
      · split
        · exact ht
        · intro u hu; simp [upd] at hu
  have h0 : FewP s.took := h
  unfold S.ask
  split
  · exact h0
  · split
    · exact h1 _ h0
    · exact h1 _ h0
theorem FewP.sum {s : S} (h : FewP s) : ∀ u, s.ups 1 = some u → ∀ k b, k ≤ 256 → joinN u.parts k = some b → b.length ≤ 1000000000 := fun u hu k b hk hj => by
  have := joinN_len 100 (h u hu) k b hj
  omega
theorem AtT.few {b : List UInt8} {s : S} (h : AtT b s) (hb : b.length ≤ 100) (m : Nat) : FewP (lost s m) := fun u hu n c hc => by
  have hu2 : s.ups 1 = some u := hu
  rw [h.up] at hu2
  injection hu2 with hu2
  subst hu2
  by_cases hn : n = 0
  · subst hn; simp [oneP, upd] at hc; rw [← hc]; exact hb
  · simp [oneP, upd, hn] at hc
theorem comp_twice (b : List UInt8) (s : S) (h : AtT b s) (m : Nat) (hm : m < 5) :
    (ccomp 5 1 1 [121] (b.length : Int) (U (Crc.sum b)) (lost s m)).r = none ∧ (ccomp 5 1 1 [121] (b.length : Int) (U (Crc.sum b)) (ccomp 5 1 1 [121] (b.length : Int) (U (Crc.sum b)) (lost s m)).st).r = some 6 ∧
      (ccomp 5 1 1 [121] (b.length : Int) (U (Crc.sum b)) (ccomp 5 1 1 [121] (b.length : Int) (U (Crc.sum b)) (lost s m)).st).st.objs [121] = some b ∧ FewP (ccomp 5 1 1 [121] (b.length : Int) (U (Crc.sum b)) (lost s m)).st := by
  have h2 : ∀ t : S, t.ups 1 = none → S.compF 1 1 t = (((), some 6), t) := fun t ht => by unfold S.compF; rw [ht]
  have hj : joinN (oneP b) 1 = some b := by simp [joinN, oneP, upd]
  obtain ⟨q1, ⟨q2, q5⟩, q3, q4⟩ := once_rep (g := S.compF 1 1) (P := fun t => t.ups 1 = some ⟨[121], oneP b⟩) (Q := fun t => t.ups 1 = none ∧ t.objs [121] = some b) (comp_mild 1 1) (fun t ht => ht) (fun t ht => ht)
    (fun t ht => by
      have e : S.compF 1 1 t = (((), none), { t with objs := upd t.objs [121] (some b), ups := upd t.ups 1 none }) := by
        unfold S.compF; rw [ht]
        simp [hj]
      rw [e]; exact ⟨rfl, by simp [upd], by simp [upd]⟩) (fun t ht => by rw [h2 t ht.1]; exact ⟨rfl, ht⟩) 5 m none (lost s m) h.up rfl hm
  have hf : ∀ s2 : S, s2.ups 1 = none → s2.script = [] → ccomp 5 1 1 [121] (b.length : Int) (U (Crc.sum b)) s2 = ⟨some 6, 1, s2.took⟩ := fun s2 hu hsc => by
    have e := bare_free (g := S.compF 1 1) (n := 4) (last := none) hsc (by rw [h2 _ (show s2.took.ups 1 = none from hu)]; simp)
    rw [h2 _ (show s2.took.ups 1 = none from hu)] at e
    unfold ccomp again
    rw [e]
    simp [Ag.doubt]
  have key : ∃ s2 : S, (ccomp 5 1 1 [121] (b.length : Int) (U (Crc.sum b)) (lost s m)).r = none ∧ (ccomp 5 1 1 [121] (b.length : Int) (U (Crc.sum b)) (lost s m)).st = s2 ∧ s2.ups 1 = none ∧ s2.script = [] ∧ s2.objs [121] = some b := by
    unfold ccomp again
    generalize agn (bareOf fun s => s.ask () (S.compF 1 1)) 5 none (lost s m) = A at *
    by_cases h0 : m = 0
    · have hr : A.r = none := by rw [q1, if_pos h0]
      rw [if_neg (by rw [hr]; simp)]
      exact ⟨A.st, hr, rfl, q2, q3, q5⟩
    · have hr : A.r = some 6 := by rw [q1, if_neg h0]
      have hd : A.doubt = true := by unfold Ag.doubt; rw [q4]; simp; omega
      have ho : A.st.took.objs [121] = some b := q5
      have eh : S.headF [121] A.st.took = ((b, none), A.st.took) := by unfold S.headF; rw [ho]
      have e := ask_freeC (z := []) (g := S.headF [121]) (n := 4) (last := none) (x := (A.st, [])) q3 (by simp only [eh]; simp)
      simp only [eh] at e
      have e' : chead 5 [121] A.st = ⟨none, 1, (A.st.took, b)⟩ := e
      rw [if_pos ⟨hd, hr⟩, e']
      exact ⟨A.st.took, by simp, rfl, q2, by simp [S.took, q3], q5⟩
  obtain ⟨s2, k1, k2, k3, k4, k5⟩ := key
  refine ⟨k1, ?_, ?_, ?_⟩
  · rw [k2, hf s2 k3 k4]
  · rw [k2, hf s2 k3 k4]; exact k5
  · rw [k2]; intro u hu; rw [k3] at hu; cases hu
end Go.Proofs.YtegaahcelogmlaaGreatDoor.St

namespace Go.Proofs.YtegaahcelogmlaaGreatDoor
open Go.RowKit Go.Maps

theorem below_drew_c {w w' : World} (h : ∃ k, w' = w.drewN k) : Below w.heap.size w w' := by
  obtain ⟨k, rfl⟩ := h; exact below_drewN (Below.refl _ _) k
theorem sameBytes_same (A A' : Option Addr) (cap cap' n : Nat) (l : List UInt8) {w : World} (hn : l.length = n) (hl : n ≤ 1000000) (hr : Reads w A l) (hr' : Reads w A' l) :
    Calls Tryz.prog 13 #[.slice A n cap, .slice A' n cap'] w fun e w' => e = .returned (.bool true) ∧ ∃ k, w' = w.drewN k :=
  (sameBytes_any A A' cap cap' n n l l w hn hn hl hl hr hr').mono fun e w' ⟨he, hw⟩ => ⟨by rw [he]; simp, hw⟩

end Go.Proofs.YtegaahcelogmlaaGreatDoor

namespace Go.Proofs.YtegaahcelogmlaaGreatDoor
open Go.RowKit Go.Maps

end Go.Proofs.YtegaahcelogmlaaGreatDoor

namespace Go.Proofs.YtegaahcelogmlaaGreatDoor.St

section
variable {nm : Nm} {b : List UInt8} {e : Nat}
/-- One upload, the first, with its first so many parts laid; nothing else. -/
structure One (nm : Nm) (b : List UInt8) (e : Nat) (done : Nat) (n : Int) (s : S) : Prop where
  script : s.script = []
  live : Live nm b e 1 done s
  ups : ∀ x, x ≠ 1 → s.ups x = none
  obj : s.objs nm = none
  calls : s.calls = n
/-- None, and the object perhaps. -/
structure Nil (nm : Nm) (o : Option (List UInt8)) (n : Int) (s : S) : Prop where
  script : s.script = []
  ups : ∀ x, s.ups x = none
  obj : s.objs nm = o
  calls : s.calls = n
theorem took_free {s : S} (h : s.script = []) : s.took.script = [] ∧ s.took.ups = s.ups ∧ s.took.objs = s.objs ∧ s.took.last = s.last ∧ s.took.calls = s.calls + 1 := ⟨by simp [S.took, h], rfl, rfl, rfl, rfl⟩
theorem One.few {done : Nat} {n : Int} {s : S} (h : One nm b e done n s) : Few b 1 s := h.live.few
theorem Nil.few {o : Option (List UInt8)} {n : Int} {s : S} (h : Nil nm o n s) (id : Int) : Few b id s := fun u hu => by rw [h.ups] at hu; cases hu
theorem new_nil (nm : Nm) : Nil nm none 0 S.new := ⟨rfl, fun _ => rfl, rfl, rfl⟩
theorem one_start (hv : Dk.valid nm = true) (t : Nat) (N : Nx) (hN : N = nxt (t + 1) nm b e S.new 0 0) : N.r = none ∧ N.a = 1 ∧ N.b = 0 ∧ N.o = false ∧ One nm b e 0 1 N.st := by
  have e1 : S.startF nm S.new.took = ((1, none), { S.new.took with last := 1, ups := upd S.new.took.ups 1 (some ⟨nm, fun _ => none⟩) }) := by
    unfold S.startF; rw [if_pos hv]; rfl
  have e2 := ask_freeC (z := 0) (g := S.startF nm) (n := t) (last := none) (x := (S.new, 0)) rfl (by simp only [e1]; simp)
  simp only [e1] at e2
  unfold nxt at hN
  rw [if_pos rfl] at hN
  unfold cstart again at hN
  rw [e2] at hN
  subst hN
  exact ⟨rfl, rfl, rfl, rfl, rfl, ⟨⟨nm, fun _ => none⟩, by simp [upd], rfl, fun j hj => absurd hj (Nat.not_lt_zero _), fun n c hc => by cases hc⟩, fun x hx => by simp [upd, hx, S.took, S.new], rfl, rfl⟩
theorem one_part (t : Nat) {d done : Nat} {n : Int} {s : S} (h : One nm b e d n s) (hd : done < cnt b.length e) (hl : done ≤ d) (hc : cnt b.length e ≤ 256) (N : Nx) (hN : N = nxt (t + 1) nm b e s 1 done) : N.r = none ∧ N.a = 1 ∧ N.b = done + 1 ∧ N.o = false ∧ One nm b e d (n + 1) N.st ∧ (d = done → One nm b e (done + 1) (n + 1) N.st) := by
  obtain ⟨k1, k2, k3, k4, k5⟩ := took_free h.script
  have hlv : Live nm b e 1 d s.took := h.live
  obtain ⟨q1, q2, q3, q4⟩ := partF_live hlv (show done < 256 by omega) hl
  have e2 := bare_free (g := S.partF 1 (done : Nat) (piece b e done)) (n := t) (last := none) h.script (by rw [q1]; simp)
  obtain ⟨u, hu, -⟩ := hlv
  have e3 : S.partF 1 (done : Nat) (piece b e done) s.took = (((), none), { s.took with ups := upd s.took.ups 1 (some { u with parts := upd u.parts (done : Nat) (some (piece b e done)) }) }) := by
    unfold S.partF; rw [hu]; simp only; rw [if_neg (by omega)]
  have hoth : ∀ x, x ≠ 1 → (S.partF 1 (done : Nat) (piece b e done) s.took).2.ups x = none := fun x hx => by rw [e3]; simp only [upd, if_neg hx]; rw [k2]; exact h.ups x hx
  have hsc : (S.partF 1 (done : Nat) (piece b e done) s.took).2.script = [] := by rw [e3]; exact k1
  have hob : (S.partF 1 (done : Nat) (piece b e done) s.took).2.objs nm = none := by rw [e3]; show s.took.objs nm = none; rw [k3]; exact h.obj
  have hca : (S.partF 1 (done : Nat) (piece b e done) s.took).2.calls = n + 1 := by rw [e3]; show s.took.calls = n + 1; rw [k5, h.calls]
  unfold nxt at hN
  rw [if_neg (by omega), if_pos hd] at hN
  unfold cpart again at hN
  rw [e2] at hN
  subst hN
  exact ⟨q1, rfl, rfl, rfl, ⟨hsc, q2, hoth, hob, hca⟩, fun e4 => ⟨hsc, q3 e4, hoth, hob, hca⟩⟩
theorem comp_free (he : 0 < e) {s : S} {n : Int} (hc : cnt b.length e ≤ 256) (h1 : Live nm b e 1 (cnt b.length e) s) (ho : ∀ x, x ≠ 1 → s.ups x = none) (hs : s.script = []) (hn : s.calls = n) : (S.compF 1 (cnt b.length e : Nat) s).1.2 = none ∧ Nil nm (some b) n (S.compF 1 (cnt b.length e : Nat) s).2 := by
  obtain ⟨q1, q2, q3⟩ := compF_live he hc h1
  obtain ⟨u, h2, h3, h4, h5⟩ := h1
  have e3 : S.compF 1 (cnt b.length e : Nat) s = (((), none), { s with objs := upd s.objs u.name (some b), ups := upd s.ups 1 none }) := by
    unfold S.compF; rw [h2]; simp only; rw [if_neg (by omega), Int.toNat_natCast, join_all he h4]
  refine ⟨q1, ?_, fun x => ?_, q2.2, ?_⟩
  · rw [e3]; exact hs
  · rw [e3]
    by_cases hx : x = 1
    · simp [upd, hx]
    · simp only [upd, if_neg hx]; exact ho x hx
  · rw [e3]; exact hn
theorem one_comp (he : 0 < e) (t : Nat) {n : Int} {s : S} (h : One nm b e (cnt b.length e) n s) (hc : cnt b.length e ≤ 256) (N : Nx) (hN : N = nxt (t + 1) nm b e s 1 (cnt b.length e)) : N.r = none ∧ N.a = 1 ∧ N.b = cnt b.length e ∧ N.o = true ∧ Nil nm (some b) (n + 1) N.st := by
  obtain ⟨k1, k2, k3, k4, k5⟩ := took_free h.script
  obtain ⟨q1, q2⟩ := comp_free (s := s.took) (n := n + 1) he hc h.live (fun x hx => by rw [k2]; exact h.ups x hx) k1 (by rw [k5, h.calls])
  have e2 := bare_free (g := S.compF 1 (cnt b.length e : Nat)) (n := t) (last := none) h.script (by rw [q1]; simp)
  unfold nxt at hN
  rw [if_neg (by omega), if_neg (Nat.lt_irrefl _)] at hN
  unfold ccomp again at hN
  rw [e2, if_neg (by rw [q1]; simp)] at hN
  subst hN
  exact ⟨q1, rfl, rfl, rfl, q2⟩
/-- Of an upload that is no more it is told so. -/
theorem nil_gone (t : Nat) {o : Option (List UInt8)} {n : Int} {s : S} (h : Nil nm o n s) (id : Int) (hid : id ≠ 0) (done : Nat) (N : Nx) (hN : N = nxt (t + 1) nm b e s id done) : N.r = some 6 ∧ Nil nm o (n + 1) N.st := by
  obtain ⟨k1, k2, k3, k4, k5⟩ := took_free h.script
  have hz : Nil nm o (n + 1) s.took := ⟨k1, fun x => by rw [k2]; exact h.ups x, by rw [k3]; exact h.obj, by rw [k5, h.calls]⟩
  unfold nxt at hN
  rw [if_neg hid] at hN
  by_cases hd : done < cnt b.length e
  · rw [if_pos hd] at hN
    have e1 : S.partF id (done : Nat) (piece b e done) s.took = (((), some 6), s.took) := by unfold S.partF; rw [hz.ups]
    have e2 := bare_free (g := S.partF id (done : Nat) (piece b e done)) (n := t) (last := none) h.script (by rw [e1]; simp)
    unfold cpart again at hN
    rw [e2, e1] at hN
    subst hN
    exact ⟨rfl, hz⟩
  · rw [if_neg hd] at hN
    have e1 : S.compF id (cnt b.length e : Nat) s.took = (((), some 6), s.took) := by unfold S.compF; rw [hz.ups]
    have e2 := bare_free (g := S.compF id (cnt b.length e : Nat)) (n := t) (last := none) h.script (by rw [e1]; simp)
    unfold ccomp again at hN
    rw [e2, e1, if_neg (by simp [Ag.doubt])] at hN
    subst hN
    exact ⟨rfl, hz⟩
theorem one_abort {done : Nat} {n : Int} {s : S} (h : One nm b e done n s) : (s.abort 1).1.2 = none ∧ Nil nm none (n + 1) (s.abort 1).2 := by
  obtain ⟨k1, k2, k3, k4, k5⟩ := took_free h.script
  obtain ⟨u, hu, -⟩ := h.live
  unfold S.abort
  rw [ask_free _ h.script]
  unfold S.abortF
  rw [k2, hu]
  refine ⟨rfl, k1, fun x => ?_, by show s.took.objs nm = none; rw [k3]; exact h.obj, by show s.took.calls = n + 1; rw [k5, h.calls]⟩
  by_cases hx : x = 1
  · simp [upd, hx]
  · simp only [upd, if_neg hx]; exact h.ups x hx
/-- The last answer lost. -/
theorem one_lost (he : 0 < e) (t : Nat) {n : Int} {s : S} (h : One nm b e (cnt b.length e) n s) (hc : cnt b.length e ≤ 256) (N : Nx) (hN : N = nxt (t + 1) nm b e (lost s 1) 1 (cnt b.length e)) :
    N.a = 1 ∧ N.b = cnt b.length e ∧ N.o = true ∧ (if t = 0 then N.r = some 10 else N.r = none) ∧ ∃ k, Nil nm (some b) k N.st := by
  have hQ : ∀ q : S, (∀ x, q.ups x = none) ∧ q.objs nm = some b → S.compF 1 (cnt b.length e : Nat) q = (((), some 6), q) := fun q hq => by unfold S.compF; rw [hq.1]
  have hP : ∀ q : S, (Live nm b e 1 (cnt b.length e) q ∧ ∀ x, x ≠ 1 → q.ups x = none) → (S.compF 1 (cnt b.length e : Nat) q).1.2 = none ∧ ((∀ x, (S.compF 1 (cnt b.length e : Nat) q).2.ups x = none) ∧ (S.compF 1 (cnt b.length e : Nat) q).2.objs nm = some b) := fun q hq => by
    obtain ⟨q1, q2, q3⟩ := compF_live he hc hq.1
    obtain ⟨u, h2, h3, h4, h5⟩ := hq.1
    have e3 : S.compF 1 (cnt b.length e : Nat) q = (((), none), { q with objs := upd q.objs u.name (some b), ups := upd q.ups 1 none }) := by
      unfold S.compF; rw [h2]; simp only; rw [if_neg (by omega), Int.toNat_natCast, join_all he h4]
    refine ⟨q1, fun x => ?_, q2.2⟩
    rw [e3]
    by_cases hx : x = 1
    · simp [upd, hx]
    · simp only [upd, if_neg hx]; exact hq.2 x hx
  unfold nxt at hN
  rw [if_neg (by omega), if_neg (Nat.lt_irrefl _)] at hN
  cases t with
  | zero =>
    have ho : (lost s 1).out = 2 := rfl
    have e2 : bareOf (fun s => s.ask () (S.compF 1 (cnt b.length e : Nat))) (lost s 1) = (some 10, (S.compF 1 (cnt b.length e : Nat) (lost s 1).took).2) := by simp [bareOf, S.ask, ho]
    have e4 : ccomp 1 1 (cnt b.length e : Nat) nm (b.length : Nat) (U (Crc.sum b)) (lost s 1) = ⟨some 10, 1, (S.compF 1 (cnt b.length e : Nat) (lost s 1).took).2⟩ := by
      unfold ccomp again
      rw [agn_more (by rw [e2]), e2]
      simp [agn]
    rw [Nat.zero_add, e4] at hN
    subst hN
    obtain ⟨q1, q2, q3⟩ := hP (lost s 1).took ⟨h.live, h.ups⟩
    exact ⟨rfl, rfl, rfl, rfl, _, (comp_mild 1 _).script _, q2, q3, rfl⟩
  | succ t =>
    obtain ⟨q1, ⟨q2, q3⟩, q4, q5⟩ := once_rep (g := S.compF 1 (cnt b.length e : Nat)) (P := fun q => Live nm b e 1 (cnt b.length e) q ∧ ∀ x, x ≠ 1 → q.ups x = none) (Q := fun q => (∀ x, q.ups x = none) ∧ q.objs nm = some b) (comp_mild 1 _) (fun q hq => hq) (fun q hq => hq) hP (fun q hq => by rw [hQ q hq]; exact ⟨rfl, hq⟩) (t + 1 + 1) 1 none (lost s 1) ⟨h.live, h.ups⟩ rfl (by omega)
    have key : ∃ k, (ccomp (t + 1 + 1) 1 (cnt b.length e : Nat) nm (b.length : Nat) (U (Crc.sum b)) (lost s 1)).r = none ∧ Nil nm (some b) k (ccomp (t + 1 + 1) 1 (cnt b.length e : Nat) nm (b.length : Nat) (U (Crc.sum b)) (lost s 1)).st := by
      unfold ccomp again
      generalize agn (bareOf fun s => s.ask () (S.compF 1 (cnt b.length e : Nat))) (t + 1 + 1) none (lost s 1) = A at *
      have hr : A.r = some 6 := by rw [q1]; simp
      have hd : A.doubt = true := by unfold Ag.doubt; rw [q5]; simp
      have ho : A.st.took.objs nm = some b := q3
      have eh : S.headF nm A.st.took = ((b, none), A.st.took) := by unfold S.headF; rw [ho]
      have e2 := ask_freeC (z := []) (g := S.headF nm) (n := t + 1) (last := none) (x := (A.st, [])) q4 (by simp only [eh]; simp)
      simp only [eh] at e2
      have e' : chead (t + 1 + 1) nm A.st = ⟨none, 1, (A.st.took, b)⟩ := e2
      rw [if_pos ⟨hd, hr⟩, e']
      exact ⟨_, by simp, by simp [S.took, q4], q2, q3, rfl⟩
    obtain ⟨k, hk1, hk2⟩ := key
    subst hN
    exact ⟨rfl, rfl, rfl, by rw [if_neg (by omega)]; exact hk1, k, hk2⟩
end
end Go.Proofs.YtegaahcelogmlaaGreatDoor.St

namespace Go.Proofs.YtegaahcelogmlaaGreatDoor
open Go.RowKit Go.Maps

/-- A box of the statement's own beside a client. -/
structure Pb (S : Nat → Prop) (cb g : Nat) (v : Array Value) (W : World) : Prop where
  box : W.heap[g]? = some (.cells v 35 (0, 0))
  nS : ¬ S g
  ne : g ≠ cb
theorem Pb.go {S D S' D' : Nat → Prop} {cb g : Nat} {v : Array Value} {W W' : World} (h : Pb S cb g v W) (hg : CaGo S D (fun k => k = cb) S' D' W W') : Pb S' cb g v W' := by
  obtain ⟨h1, h2⟩ := hg.stays (Array.getElem?_eq_some_iff.1 h.box).1 h.nS h.ne
  exact ⟨h1.trans h.box, h2, h.ne⟩
theorem Pb.below {S : Nat → Prop} {cb g : Nat} {v : Array Value} {W W' : World} (h : Pb S cb g v W) (hb : Below W.heap.size W W') : Pb S cb g v W' :=
  ⟨(hb.block g (Array.getElem?_eq_some_iff.1 h.box).1).trans h.box, h.nS, h.ne⟩
theorem Pb.stGo {S D S' D' : Nat → Prop} {cb g : Nat} {v : Array Value} {W W' : World} (h : Pb S cb g v W) (hg : StGo S D S' D' W W') : Pb S' cb g v W' := by
  obtain ⟨h1, h2⟩ := (CaGo.of_st (K := fun _ => False) hg).stays (Array.getElem?_eq_some_iff.1 h.box).1 h.nS id
  exact ⟨h1.trans h.box, h2, h.ne⟩
abbrev planC (nm : List UInt8) (n sum e k : Int) : Array Value := #[encStr nm, .int .i64 n, .int .u32 sum, .int .i64 e, .int .i64 k]
theorem Pb.cells {S : Nat → Prop} {cb g : Nat} {nm : List UInt8} {n sum e k : Int} {W : World} (h : Pb S cb g (planC nm n sum e k) W) :
    W.cell? ⟨g, 0, none⟩ = some (encStr nm) ∧ W.cell? ⟨g, 1, none⟩ = some (.int .i64 n) ∧ W.cell? ⟨g, 2, none⟩ = some (.int .u32 sum) ∧ W.cell? ⟨g, 3, none⟩ = some (.int .i64 e) ∧ W.cell? ⟨g, 4, none⟩ = some (.int .i64 k) :=
  ⟨box_cell h.box 0, box_cell h.box 1, box_cell h.box 2, box_cell h.box 3, box_cell h.box 4⟩
/-- The plan's box, laid behind the client. -/
theorem CaS.plan {w0 W : World} {S D : Nat → Prop} {sb cb t n : Nat} {a : Int} {s : St.S} (h : CaS w0 S D sb cb t a s n W) (v : Array Value) : CaS w0 S D sb cb t a s n (W.alloc (.cells v 35)) ∧ Pb S cb W.heap.size v (W.alloc (.cells v 35)) := by
  have hcl : cb < W.heap.size := (Array.getElem?_eq_some_iff.1 h.box).1
  exact ⟨h.grow (balloc (Below.refl _ _) _), heap_alloc_new _ _, fun hx => by have := h.st.lt _ (.inl hx); omega, by omega⟩
theorem paIn_of {E : Nat → Prop} {w W : World} {S D : Nat → Prop} {sb cb t n : Nat} {a : Int} {s : St.S} {p : Nat → Addr} {nm : List UInt8} {A : Option Addr} {c L : Nat} {b : List UInt8} {e : Nat} (hs : SentsOn E w p) (ht : Tabs w) (ha : Arg w A c b) (hL : b.length = L) (hL2 : L ≤ 1000) (htt : 1 ≤ t ∧ t ≤ 8) (hk : nm.length ≤ 64) (he : 1 ≤ e ∧ e ≤ 1048576) (hc : St.cnt L e ≤ 256)
    (h : CaS w S D sb cb t a s n W) (hn : n ≤ 700000) : PaIn E w S cb t n p nm A c L b e W := by
  refine ⟨hs, ht, htt, hn, hk, ha.below h.st.below (Nat.le_refl _), hL, hL2, fun x o e hb => ?_, he, hc⟩
  have hx : x < w.heap.size := by
    rcases ha.reads with h1 | ⟨g, off, e1, hlt, -⟩
    · exact absurd h1 hb
    · rw [e1] at e; injection e with e; injection e with e _ _; subst e; exact hlt
  exact ⟨fun hS => by have := h.st.lo x (.inl hS); omega, fun e2 => by have := h.lo; omega⟩
/-- A Step, wherever the session stands. -/
theorem paStep_at {E : Nat → Prop} [hE : Told E] {w : World} {p : Nat → Addr} {nm : List UInt8} {A : Option Addr} {c L : Nat} {b : List UInt8} {e t : Nat} (hs : SentsOn E w p) (ht : Tabs w) (ha : Arg w A c b) (hL : b.length = L) (hL2 : L ≤ 1000) (htt : 1 ≤ t ∧ t ≤ 8) (hk : nm.length ≤ 64) (he : 1 ≤ e ∧ e ≤ 1048576) (hc : St.cnt L e ≤ 256)
    {W : World} {S D : Nat → Prop} {sb cb n : Nat} {a : Int} {s : St.S} (h : CaS w S D sb cb t a s n W) (hn : n ≤ 700000) (id : Int) (hid : -9223372036854775808 ≤ id ∧ id ≤ 9223372036854775807) (done : Nat) (hd : done ≤ St.cnt L e) (hf : St.Few b id s) (N : St.Nx) (hN : N = St.nxt t nm b e s id done) :
    Calls Tryz.prog 10 #[.pointer (some ⟨cb, 0, none⟩), planV nm L (U (Crc.sum b)) e (St.cnt L e : Nat), .slice A L c, .int .i64 id, .int .i64 done] W fun x w' => x = .returned (.tuple #[.int .i64 (N.tA id), .int .i64 (N.tB done : Nat), .bool N.tO, errR p N.tE]) ∧ ∃ a' S' D', CaS w S' D' sb cb t a' N.st (n + t + t) w' ∧ CaGo S D (fun k => k = cb) S' D' W w' :=
  paStep_any h (paIn_of hs ht ha hL hL2 htt hk he hc h hn) id hid done hd hf N hN

instance told_q : Told (fun j => 3 ≤ j ∧ j ≤ 6 ∨ j = 10) := ⟨by omega, by omega, by omega, by omega⟩
end Go.Proofs.YtegaahcelogmlaaGreatDoor
