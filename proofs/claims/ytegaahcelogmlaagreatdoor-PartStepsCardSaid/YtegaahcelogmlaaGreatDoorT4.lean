/-
  A store's Put, and what it leaves.
  A store under a walk: what a call tells and leaves; Put.
  A store made, and its script; what is no call.
  The chapter's example: first().
-/
import Derived.Test.YtegaahcelogmlaaGreatDoorT3
import Derived.Test.YtegaahcelogmlaaGreatDoorT1
import Derived.Maps.AppendAt
import Derived.Carry
import Derived.Laws.BytesString
import Derived.Lib.SlBytesConst
import Derived.Lib.SmallJoins
namespace Go.Proofs.YtegaahcelogmlaaGreatDoor
open Go.RowKit Go.Maps

theorem map_objs : Tryz.prog.underlying 48 = some (.map 9 22) := by kernel_rfl
theorem map_ups : Tryz.prog.underlying 49 = some (.map 3 69) := by kernel_rfl
theorem map_parts : Tryz.prog.underlying 67 = some (.map 3 22) := by kernel_rfl
theorem zero_bytes (w : World) : (zeroValue 22).run Tryz.prog w = .ok (.slice none 0 0) w := by kernel_rfl
theorem zero_upload (w : World) : (zeroValue 69).run Tryz.prog w = .ok (.agg #[encStr [], .map none]) w := by kernel_rfl

/-- What a call leaves of a store: it is this one, its blocks are its own or new. -/
structure StPost (w : World) (sb : Nat) (s' : St.S) (m : Nat) (S D : Nat → Prop) (w' : World) : Prop where
  ex : ∃ S' D', IsStore w' sb s' m S' D' ∧ (∀ k, S' k → Up S w w' k) ∧ ∀ k, D' k → Up D w w' k
  chg : Chg S w w'
theorem StPost.grow {w w1 w2 : World} {sb m : Nat} {s : St.S} {S D : Nat → Prop} (h : StPost w sb s m S D w1) (hb : Below w1.heap.size w1 w2) : StPost w sb s m S D w2 := by
  obtain ⟨⟨S', D', hs, h1, h2⟩, hc⟩ := h
  have hz := hb.size
  exact ⟨⟨S', D', hs.below hb, fun k hk => by rcases h1 k hk with h | h; exact .inl h; exact .inr (by omega), fun k hk => by rcases h2 k hk with h | h; exact .inl h; exact .inr (by omega)⟩, hc.then (Chg.of_below hb)⟩
/-- From a world further on. -/
theorem StPost.ahead {w w1 w2 : World} {sb m : Nat} {s : St.S} {S D : Nat → Prop} (h : StPost w1 sb s m S D w2) (hc : Chg S w w1) : StPost w sb s m S D w2 := by
  obtain ⟨⟨S', D', hs, h1, h2⟩, hc2⟩ := h
  have hz := hc.size
  exact ⟨⟨S', D', hs, fun k hk => by rcases h1 k hk with h | h; exact .inl h; exact .inr (by omega), fun k hk => by rcases h2 k hk with h | h; exact .inl h; exact .inr (by omega)⟩, hc.then hc2⟩
theorem StPost.mono {w w' : World} {sb m n : Nat} {s : St.S} {S D : Nat → Prop} (h : StPost w sb s m S D w') (hn : m ≤ n) : StPost w sb s n S D w' := by
  obtain ⟨⟨S', D', ⟨ob, ub, sv, ov, pb, pv, hs⟩, h1, h2⟩, hc⟩ := h
  exact ⟨⟨S', D', ⟨ob, ub, sv, ov, pb, pv, hs.mono hn (fun _ h => h) (fun _ h => h) hs.sd hs.lt⟩, h1, h2⟩, hc⟩
theorem StPost.of_same {w w' : World} {sb m : Nat} {s : St.S} {S D : Nat → Prop} (h : IsStore w' sb s m S D) (hc : Chg S w w') : StPost w sb s m S D w' := ⟨⟨S, D, h, fun _ h => .inl h, fun _ h => .inl h⟩, hc⟩

/-- Bytes of the call's own are data. -/
theorem Own.data {w : World} {base : Nat} {v : Value} {l : List UInt8} {D : Nat → Prop} (h : Own w base v l) (hl : l.length ≤ 1000000000) : DataAt w (fun g => D g ∨ v.ownBlock = some g) v l := by
  obtain ⟨A, c, rfl, ha⟩ := h.arg
  have hlt := h.lt
  refine ⟨A, c, rfl, ha.le, ha.max, hl, ha.nil, ha.reads, fun a e hl => ?_⟩
  subst e
  exact ⟨.inr rfl, (hlt _ rfl).2⟩

section
variable {w : World} {sb ob ub : Nat} {sv : Value} {ov : St.Nm → Option Value} {pb : Int → Nat} {pv : Int → Int → Option Value} {s : St.S} {m : Nat} {S D : Nat → Prop}
/-- An object is laid. -/
theorem StoreL.putObj {w1 w2 : World} (h : StoreL w sb ob ub sv ov pb pv s m S D) (hb : Below w.heap.size w w1) {v : Value} {b k : List UInt8} (hv : Own w1 w.heap.size v b) (hl : b.length ≤ 1000000000) (hk : k.length ≤ 64) (hm : MapS w2 ob (m + 1) (updV ov k (some v))) (hg : w1.grownBy w2 (some ob)) (hz : w2.heap.size = w1.heap.size) :
    StoreL w2 sb ob ub sv (updV ov k (some v)) pb pv { s with objs := St.upd s.objs k (some b) } (m + 1) S (fun g => D g ∨ v.ownBlock = some g) := by
  have h1 := h.kept (w' := w1) hb.size fun k _ hl => hb.block k hl
  have hlt := hv.lt
  have hoth : ∀ g, g ≠ ob → g < w1.heap.size → w2.heap[g]? = w1.heap[g]? := fun g hne hl => hg.block g hl (by intro e; injection e with e; exact hne e)
  have nD : ∀ g, D g ∨ v.ownBlock = some g → g ≠ ob := fun g hx e => by
    rcases hx with hx | hx
    · exact h.sd _ h.mob (e ▸ hx)
    · have := (hlt _ hx).1; have := h.lt _ (.inl h.mob); omega
  have hD : ∀ v' l', DataAt w1 D v' l' → DataAt w2 (fun g => D g ∨ v.ownBlock = some g) v' l' := fun v' l' hd => (hd.mono fun _ h => .inl h).kept (by omega) fun g hg' hl => hoth g (nD g hg') hl
  have hnew : DataAt w2 (fun g => D g ∨ v.ownBlock = some g) v b := (hv.data hl).kept (by omega) fun g hg' hl => hoth g (nD g hg') hl
  have hmp : ∀ {κ : Type} {kt : TypeId} {mk : κ → Lit} {x : Nat} {f : κ → Option Value}, MapV kt mk w1 x m f → x ≠ ob → MapV kt mk w2 x (m + 1) f := fun hmap hne => (hmap.same (hoth _ hne hmap.lt)).mono (Nat.le_succ _)
  have hsb : sb ≠ ob := fun e => by
    obtain ⟨es, clock, he⟩ := h.objs.isMap
    rw [← e, h.box] at he; cases he
  refine { box := (hoth _ hsb (h1.lt _ (.inl h.msb))).trans h1.box, objs := hm, oat := fun x => ?_, ups := hmp h1.ups h.ne.symm, parts := fun i u hu => ?_, inj := h.inj, ne := h.ne, scr := h1.scr.kept fun g hS hl ⟨cs, hcs⟩ => hoth g (fun e => ?_) hl, msb := h.msb, mob := h.mob, mub := h.mub, sd := fun g hS hx => ?_, lt := fun g hx => ?_, keys := fun x hx => ?_, last := ⟨h.last.1, by have := h.last.2; show s.last ≤ _; omega⟩ }
  · by_cases e : x = k
    · subst e; simp only [updV, St.upd, if_true]; exact hnew
    · simp only [updV, St.upd, if_neg e]; exact (h1.oat x).imp hD
  · obtain ⟨p1, p2, p3, p4, p5, p6, p7, p8⟩ := h1.parts i u hu
    exact ⟨hmp p1 p4, fun n => (p2 n).imp hD, p3, p4, p5, p6, p7, p8⟩
  · subst e
    obtain ⟨es, clock, he⟩ := h1.objs.isMap
    rw [hcs] at he; cases he
  · rcases hx with hx | hx
    · exact h.sd _ hS hx
    · have := (hlt _ hx).1; have := h.lt _ (.inl hS); omega
  · rw [hz]
    rcases hx with hx | hx | hx
    · exact h1.lt _ (.inl hx)
    · exact h1.lt _ (.inr hx)
    · exact (hlt _ hx).2
  · by_cases e : x = k
    · subst e; exact hk
    · exact h.keys x (by simpa [St.upd, e] using hx)
end

/-- New memory alone is made. -/
abbrev Gro : World → World → Prop := fun a b => Below a.heap.size a b
theorem gro_goes : Goes Gro := ⟨fun w => Below.refl _ w, fun h k => h.trans (k.mono h.size)⟩
/-- A row of the call's own, in a slot. -/
def heldRow (base : Nat) (b : List UInt8) : Held Gro := ⟨fun v W => Own W base v b, fun _ _ _ h hb => h.below hb (Nat.le_refl _)⟩

end Go.Proofs.YtegaahcelogmlaaGreatDoor

namespace Go.Proofs.YtegaahcelogmlaaGreatDoor
open Go.RowKit Go.Maps

theorem errCellE {E : Nat → Prop} {w0 w : World} {p : Nat → Addr} (hs : SentsOn E w0 p) (hb : Below w0.heap.size w0 w) (j : Nat) (hj : E j) : w.cell? ⟨gs.getD j 0, 0, none⟩ = some (errV (p j)) := (hs.below hb).cell j hj
theorem errCell {w0 w : World} {p : Nat → Addr} (hs : Sents w0 p) (hb : Below w0.heap.size w0 w) (j : Nat) (hj : j < 19) : w.cell? ⟨gs.getD j 0, 0, none⟩ = some (errV (p j)) := (hs.below hb).cell j hj
/-- The errors that a store or its client tells are among these. -/
class Told (E : Nat → Prop) : Prop where
  e4 : E 4
  e5 : E 5
  e6 : E 6
  e10 : E 10
instance told_all : Told (fun j => j < 19) := ⟨by omega, by omega, by omega, by omega⟩
/-- A store whose blocks are S's and D's, all of them new since w0. -/
structure StS (w0 : World) (S D : Nat → Prop) (sb : Nat) (s : St.S) (n : Nat) (w : World) : Prop where
  st : IsStore w sb s n S D
  lo : ∀ k, S k ∨ D k → w0.heap.size ≤ k
  below : Below w0.heap.size w0 w
  calls : 0 ≤ s.calls ∧ s.calls ≤ n
  failed : 0 ≤ s.failed ∧ s.failed ≤ n
/-- What a call leaves of all else. -/
structure StGo (S D S' D' : Nat → Prop) (w w' : World) : Prop where
  chg : Chg S w w'
  s : ∀ k, S' k → Up S w w' k
  d : ∀ k, D' k → Up D w w' k
theorem StS.lt {w0 w : World} {S D : Nat → Prop} {sb n : Nat} {s : St.S} (h : StS w0 S D sb s n w) : ∀ k, S k ∨ D k → k < w.heap.size := by
  obtain ⟨_, _, _, _, _, _, hl⟩ := h.st; exact hl.lt
theorem StS.sd {w0 w : World} {S D : Nat → Prop} {sb n : Nat} {s : St.S} (h : StS w0 S D sb s n w) : ∀ k, S k → ¬ D k := by
  obtain ⟨_, _, _, _, _, _, hl⟩ := h.st; exact hl.sd
theorem StS.grow {w0 w w' : World} {S D : Nat → Prop} {sb n : Nat} {s : St.S} (h : StS w0 S D sb s n w) (hb : Below w.heap.size w w') : StS w0 S D sb s n w' :=
  ⟨h.st.below hb, h.lo, h.below.trans (hb.mono h.below.size), h.calls, h.failed⟩
theorem StS.mono {w0 w : World} {S D : Nat → Prop} {sb n m : Nat} {s : St.S} (h : StS w0 S D sb s n w) (hm : n ≤ m) : StS w0 S D sb s m w := by
  obtain ⟨ob, ub, sv, ov, pb, pv, hl⟩ := h.st
  exact ⟨⟨ob, ub, sv, ov, pb, pv, hl.mono hm (fun _ h => h) (fun _ h => h) hl.sd hl.lt⟩, h.lo, h.below, ⟨h.calls.1, by have := h.calls.2; omega⟩, ⟨h.failed.1, by have := h.failed.2; omega⟩⟩
theorem StS.post {w0 w w' : World} {S D : Nat → Prop} {sb n : Nat} {s s' : St.S} (h : StS w0 S D sb s n w) (hp : StPost w sb s' (n + 1) S D w') (hc : 0 ≤ s'.calls ∧ s'.calls ≤ s.calls + 1) (hf : 0 ≤ s'.failed ∧ s'.failed ≤ s.failed + 1) :
    ∃ S' D', StS w0 S' D' sb s' (n + 1) w' ∧ StGo S D S' D' w w' := by
  obtain ⟨⟨S', D', hs, h1, h2⟩, hch⟩ := hp
  have hz := h.below.size
  refine ⟨S', D', ⟨hs, fun k hk => ?_, h.below.trans (hch.below hz fun k hk => h.lo k (.inl hk)), ⟨hc.1, by have := h.calls.2; omega⟩, ⟨hf.1, by have := h.failed.2; omega⟩⟩, ⟨hch, h1, h2⟩⟩
  rcases hk with hk | hk
  · rcases h1 k hk with h3 | h3
    · exact h.lo k (.inl h3)
    · omega
  · rcases h2 k hk with h3 | h3
    · exact h.lo k (.inr h3)
    · omega
namespace St
/-- What may be done leaves the numbers of calls. -/
def Quiet {α : Type} (f : S → (α × Option Nat) × S) : Prop := ∀ t, (f t).2.calls = t.calls ∧ (f t).2.failed = t.failed
theorem took_fail (s : S) : s.failed ≤ s.took.failed ∧ s.took.failed ≤ s.failed + 1 := by
  unfold S.took; simp only; split <;> omega
theorem ask_num {α : Type} {f : S → (α × Option Nat) × S} (hq : Quiet f) (s : S) (z : α) : (s.ask z f).2.calls = s.calls + 1 ∧ s.failed ≤ (s.ask z f).2.failed ∧ (s.ask z f).2.failed ≤ s.failed + 1 := by
  have h1 := hq s.took
  have h2 := took_fail s
  have h3 : s.took.calls = s.calls + 1 := rfl
  unfold S.ask
  split
  · exact ⟨h3, h2⟩
  · split
    · exact ⟨h1.1.trans h3, by simp only; omega⟩
    · exact ⟨h1.1.trans h3, by omega⟩
end St

set_option maxRecDepth 100000 in
/-- A call that tells an error alone. -/
theorem bareCall {w : World} {sb m : Nat} {s : St.S} {S D : Nat → Prop} (h : IsStore w sb s m S D) (hc : 0 ≤ s.calls ∧ s.calls ≤ 1000000000) (hf : 0 ≤ s.failed ∧ s.failed ≤ 1000000000)
    (p : Nat → Addr) (hs : w.cell? ⟨6, 0, none⟩ = some (errV (p 10))) (hg : ¬ S 6) (F : Nat) (caps : Array Value) (hE : Enters Tryz.prog F) (f : St.S → (Unit × Option Nat) × St.S)
    (hdo : ∀ w1, Chg (fun k => k = sb) w w1 → IsStore w1 sb s.took m S D → Calls Tryz.prog F caps w1 fun e w2 => e = .returned (errR p (f s.took).1.2) ∧ StPost w1 sb (f s.took).2 (m + 1) S D w2) :
    Calls Tryz.prog 59 #[.pointer (some ⟨sb, 0, none⟩), .func (.func F) #[] caps] w fun e w' => e = .returned (errR p (s.ask () f).1.2) ∧ StPost w sb (s.ask () f).2 (m + 1) S D w' := by
  obtain ⟨ob, ub, sv, ov, pb, pv, h⟩ := h
  have hg2 : 6 ≠ sb := fun e => hg (e ▸ h.msb)
  have hup : ∀ {w1 : World}, Chg (fun k => k = sb) w w1 → Chg S w w1 := fun hc => hc.mono fun k e => e ▸ h.msb
  refine (stBare_any h hc hf p hs hg2 F caps hE (fun r w' => r = (s.ask () f).1.2 ∧ StPost w sb (s.ask () f).2 (m + 1) S D w') (fun r W W' hr hb => ⟨hr.1, hr.2.grow hb⟩) (fun ho w1 ht => ?_) (fun ho w1 ht => ?_)).mono fun e w' ⟨r, he, hr, hp⟩ => ⟨by rw [he, hr], hp⟩
  · obtain ⟨sv1, h1⟩ := ht.st
    have e : s.ask () f = (((), some 10), s.took) := by unfold St.S.ask; rw [if_pos ho]
    rw [e]
    exact ⟨rfl, (StPost.of_same ⟨_, _, _, _, _, _, h1⟩ (hup ht.chg)).mono (Nat.le_succ _)⟩
  · obtain ⟨sv1, h1⟩ := ht.st
    refine (hdo w1 ht.chg ⟨_, _, _, _, _, _, h1⟩).mono fun e w2 ⟨he, hp⟩ => ⟨_, he, hp.chg.cell (ht.chg.cell hs hg2) hg, fun h2 => ?_, fun h2 => ?_⟩
    · have e : s.ask () f = (((), some 10), (f s.took).2) := by unfold St.S.ask; rw [if_neg ho, if_pos h2]
      rw [e]
      exact ⟨rfl, hp.ahead (hup ht.chg)⟩
    · have e : s.ask () f = f s.took := by unfold St.S.ask; rw [if_neg ho, if_neg h2]
      rw [e]
      exact ⟨rfl, hp.ahead (hup ht.chg)⟩

set_option maxRecDepth 100000 in
/-- A call that tells bytes and an error. -/
theorem ansCallB {w : World} {sb m : Nat} {s : St.S} {S D : Nat → Prop} (h : IsStore w sb s m S D) (hc : 0 ≤ s.calls ∧ s.calls ≤ 1000000000) (hf : 0 ≤ s.failed ∧ s.failed ≤ 1000000000)
    (p : Nat → Addr) (hs : w.cell? ⟨6, 0, none⟩ = some (errV (p 10))) (hg : ¬ S 6) (F : Nat) (caps : Array Value) (hE : Enters Tryz.prog F) {α : Type} (z : α) (f : St.S → (α × Option Nat) × St.S) (V : α → Value → World → Prop) (hV : ∀ a v W W', V a v W → Below W.heap.size W W' → V a v W') (hz : ∀ W, V z (.slice none 0 0) W)
    (Post : St.S → World → Prop) (hP1 : ∀ w1, Chg (fun k => k = sb) w w1 → IsStore w1 sb s.took m S D → Post s.took w1) (hP2 : ∀ t W W', Post t W → Below W.heap.size W W' → Post t W') (hP3 : ∀ t W, Post t W → Chg S w W)
    (hdo : ∀ w1, Chg (fun k => k = sb) w w1 → IsStore w1 sb s.took m S D → Calls Tryz.prog F caps w1 fun e w2 => ∃ A n c, e = .returned (.tuple #[.slice A n c, errR p (f s.took).1.2]) ∧ V (f s.took).1.1 (.slice A n c) w2 ∧ Post (f s.took).2 w2) :
    Calls Tryz.prog 84 #[.pointer (some ⟨sb, 0, none⟩), .func (.func F) #[] caps] w fun e w' => ∃ A n c, e = .returned (.tuple #[.slice A n c, errR p (s.ask z f).1.2]) ∧ V (s.ask z f).1.1 (.slice A n c) w' ∧ Post (s.ask z f).2 w' := by
  obtain ⟨ob, ub, sv, ov, pb, pv, h⟩ := h
  have hg2 : 6 ≠ sb := fun e => hg (e ▸ h.msb)
  refine (stAnsB_any h hc hf p hs hg2 F caps hE (fun v r w' => r = (s.ask z f).1.2 ∧ V (s.ask z f).1.1 v w' ∧ Post (s.ask z f).2 w') (fun v r W W' hr hb => ⟨hr.1, hV _ _ _ _ hr.2.1 hb, hP2 _ _ _ hr.2.2 hb⟩) (fun ho w1 ht => ?_) (fun ho w1 ht => ?_)).mono fun e w' ⟨A, n, c, r, he, hr, hv, hp⟩ => ⟨A, n, c, by rw [he, hr], hv, hp⟩
  · obtain ⟨sv1, h1⟩ := ht.st
    have e : s.ask z f = ((z, some 10), s.took) := by unfold St.S.ask; rw [if_pos ho]
    rw [e]
    exact ⟨rfl, hz _, hP1 _ ht.chg ⟨_, _, _, _, _, _, h1⟩⟩
  · obtain ⟨sv1, h1⟩ := ht.st
    refine (hdo w1 ht.chg ⟨_, _, _, _, _, _, h1⟩).mono fun e w2 ⟨A, n, c, he, hv, hp⟩ => ⟨A, n, c, _, he, (hP3 _ _ hp).cell hs hg, fun h2 => ?_, fun h2 => ?_⟩
    · have e : s.ask z f = ((z, some 10), (f s.took).2) := by unfold St.S.ask; rw [if_neg ho, if_pos h2]
      rw [e]
      exact ⟨rfl, hz _, hp⟩
    · have e : s.ask z f = f s.took := by unfold St.S.ask; rw [if_neg ho, if_neg h2]
      rw [e]
      exact ⟨rfl, hv, hp⟩

set_option maxRecDepth 100000 in
/-- A call that tells a number and an error. -/
theorem ansCallI {w : World} {sb m : Nat} {s : St.S} {S D : Nat → Prop} (h : IsStore w sb s m S D) (hc : 0 ≤ s.calls ∧ s.calls ≤ 1000000000) (hf : 0 ≤ s.failed ∧ s.failed ≤ 1000000000)
    (p : Nat → Addr) (hs : w.cell? ⟨6, 0, none⟩ = some (errV (p 10))) (hg : ¬ S 6) (F : Nat) (caps : Array Value) (hE : Enters Tryz.prog F) {α : Type} (z : α) (f : St.S → (α × Option Nat) × St.S) (V : α → Value → World → Prop) (hV : ∀ a v W W', V a v W → Below W.heap.size W W' → V a v W') (hz : ∀ W, V z (.int .i64 0) W)
    (Post : St.S → World → Prop) (hP1 : ∀ w1, Chg (fun k => k = sb) w w1 → IsStore w1 sb s.took m S D → Post s.took w1) (hP2 : ∀ t W W', Post t W → Below W.heap.size W W' → Post t W') (hP3 : ∀ t W, Post t W → Chg S w W)
    (hdo : ∀ w1, Chg (fun k => k = sb) w w1 → IsStore w1 sb s.took m S D → Calls Tryz.prog F caps w1 fun e w2 => ∃ x, e = .returned (.tuple #[.int .i64 x, errR p (f s.took).1.2]) ∧ V (f s.took).1.1 (.int .i64 x) w2 ∧ Post (f s.took).2 w2) :
    Calls Tryz.prog 56 #[.pointer (some ⟨sb, 0, none⟩), .func (.func F) #[] caps] w fun e w' => ∃ x, e = .returned (.tuple #[.int .i64 x, errR p (s.ask z f).1.2]) ∧ V (s.ask z f).1.1 (.int .i64 x) w' ∧ Post (s.ask z f).2 w' := by
  obtain ⟨ob, ub, sv, ov, pb, pv, h⟩ := h
  have hg2 : 6 ≠ sb := fun e => hg (e ▸ h.msb)
  refine (stAnsI_any h hc hf p hs hg2 F caps hE (fun v r w' => r = (s.ask z f).1.2 ∧ V (s.ask z f).1.1 v w' ∧ Post (s.ask z f).2 w') (fun v r W W' hr hb => ⟨hr.1, hV _ _ _ _ hr.2.1 hb, hP2 _ _ _ hr.2.2 hb⟩) (fun ho w1 ht => ?_) (fun ho w1 ht => ?_)).mono fun e w' ⟨x, r, he, hr, hv, hp⟩ => ⟨x, by rw [he, hr], hv, hp⟩
  · obtain ⟨sv1, h1⟩ := ht.st
    have e : s.ask z f = ((z, some 10), s.took) := by unfold St.S.ask; rw [if_pos ho]
    rw [e]
    exact ⟨rfl, hz _, hP1 _ ht.chg ⟨_, _, _, _, _, _, h1⟩⟩
  · obtain ⟨sv1, h1⟩ := ht.st
    refine (hdo w1 ht.chg ⟨_, _, _, _, _, _, h1⟩).mono fun e w2 ⟨x, he, hv, hp⟩ => ⟨x, _, he, (hP3 _ _ hp).cell hs hg, fun h2 => ?_, fun h2 => ?_⟩
    · have e : s.ask z f = ((z, some 10), (f s.took).2) := by unfold St.S.ask; rw [if_neg ho, if_pos h2]
      rw [e]
      exact ⟨rfl, hz _, hp⟩
    · have e : s.ask z f = f s.took := by unfold St.S.ask; rw [if_neg ho, if_neg h2]
      rw [e]
      exact ⟨rfl, hv, hp⟩

/-- What a call leaves that only reads. -/
theorem StS.read {w0 w w' : World} {S D : Nat → Prop} {sb n : Nat} {s s' : St.S} (h : StS w0 S D sb s n w) (hp : IsStore w' sb s' n S D) (hch : Chg S w w') (hc : 0 ≤ s'.calls ∧ s'.calls ≤ s.calls + 1) (hf : 0 ≤ s'.failed ∧ s'.failed ≤ s.failed + 1) : StS w0 S D sb s' (n + 1) w' := by
  obtain ⟨ob, ub, sv, ov, pb, pv, hl⟩ := hp
  exact ⟨⟨ob, ub, sv, ov, pb, pv, hl.mono (Nat.le_succ _) (fun _ h => h) (fun _ h => h) hl.sd hl.lt⟩, h.lo, h.below.trans (hch.below h.below.size fun k hk => h.lo k (.inl hk)), ⟨hc.1, by have := h.calls.2; omega⟩, ⟨hf.1, by have := h.failed.2; omega⟩⟩

def St.S.put (s : St.S) (k : St.Nm) (b : List UInt8) : (Unit × Option Nat) × St.S := s.ask () (St.S.putF k b)
theorem St.put_quiet (k : St.Nm) (b : List UInt8) : St.Quiet (St.S.putF k b) := fun t => by unfold St.S.putF; split <;> exact ⟨rfl, rfl⟩

end Go.Proofs.YtegaahcelogmlaaGreatDoor

namespace Go.Proofs.YtegaahcelogmlaaGreatDoor
open Go.RowKit Go.Maps

theorem int_info : (Tryz.prog.info? 3).map (fun i => (i.zero, i.size, i.bytes)) = some (some (.int .i64 0), 1, 8) := by kernel_rfl
theorem list_getD_toArray (l : List Value) (j : Nat) (h : j < l.length) : l.toArray[j]? = some l[j] := by simp [h]
set_option maxRecDepth 100000 in
/-- append(script, outcomes...) -/
theorem scr_append {w : World} {S : Nat → Prop} {v : Value} {l : List Int} (h : ScrAt w S v l) (A : Option Addr) (m c : Nat) (zs : List Int) (hz : IntsArg w A c zs) (hm : zs.length = m) (hl : l.length + m ≤ 1000000) (ty : TypeId) :
    ∃ v' w', (Builtin.append_ #[23, 23] ty #[v, .slice A m c]).run Tryz.prog w = .ok v' w' ∧ ScrAt w' (Up S w w') v' (l ++ zs) ∧ w.grownBy w' v.ownBlock ∧ w'.heap.size ≤ w.heap.size + 1 := by
  subst hm
  obtain ⟨i, hi, hz0, hs1, hby⟩ := info_parts int_info
  have u : Tryz.prog.underlying 23 = some (.slice 3) := Tryz.underlying23
  have one : ∀ x ∈ zs.map (Value.int .i64), x.oneCell' = true := ints_oneCell .i64 zs
  by_cases h0 : zs = []
  · subst h0
    refine ⟨v, w, ?_, by simpa using h.mono fun k hk => .inl hk, World.grownBy.refl w _, by omega⟩
    rcases h with ⟨rfl, rfl⟩ | ⟨g, off, cp, cs, rfl, _, hh, h1, h2, h3, _⟩
    · cases A <;> simp [Builtin.append_, run_underlying u, sizeOf, typeInfo, hi, Builtin.lenOf, Builtin.firstCells, loadCells, loadCellsFrom]
    · cases A <;> simp [Builtin.append_, run_underlying u, sizeOf, typeInfo, hi, Builtin.lenOf, Builtin.firstCells, loadCells, loadCellsFrom, h2, storeCells]
  · obtain ⟨b, o, hA, -⟩ := hz.get 0 (by cases zs with | nil => exact absurd rfl h0 | cons a t => simp)
    subst hA
    have hnews : ∀ j x, (zs.map (Value.int .i64))[j]? = some x → w.cell? ((⟨b, o, none⟩ : Addr).add j) = some x := fun j x hx => by
      have hj : j < zs.length := by simpa using (List.getElem?_eq_some_iff.1 hx).1
      obtain ⟨b', o', e, hc⟩ := hz.get j hj
      injection e with e; injection e with e1 e2 _; subst e1 e2
      rw [Addr.add_lit, hc, ← hx]
      simp [List.getD, hj]
    have hln : (zs.map (Value.int .i64)).length = zs.length * i.size := by rw [hs1]; simp
    have hfit : ∀ z ∈ l, -9223372036854775808 ≤ z ∧ z ≤ 9223372036854775807 := by
      rcases h with ⟨_, rfl⟩ | ⟨g, off, cp, cs, _, _, _, _, _, _, _, h5⟩
      · simp
      · exact h5
    have hfit2 : ∀ z ∈ l ++ zs, -9223372036854775808 ≤ z ∧ z ≤ 9223372036854775807 := fun z hz' => by
      rcases List.mem_append.1 hz' with h | h
      · exact hfit z h
      · exact hz.fit z h
    -- what a new row holds
    have grown : ∀ (old : Nat), ScrAt (w.drew.alloc (.cells ((l.map (Value.int .i64)).toArray ++ (zs.map (Value.int .i64)).toArray ++ Builtin.zeroCells (Value.int .i64 0).cells (grownCap w (l.length + zs.length) old 3 - (l.length + zs.length))) 3)) (Up S w (w.drew.alloc (.cells ((l.map (Value.int .i64)).toArray ++ (zs.map (Value.int .i64)).toArray ++ Builtin.zeroCells (Value.int .i64 0).cells (grownCap w (l.length + zs.length) old 3 - (l.length + zs.length))) 3))) (.slice (some ⟨w.heap.size, 0, none⟩) (l.length + zs.length) (grownCap w (l.length + zs.length) old 3)) (l ++ zs) := fun old => by
      have hge := grownCap_ge w (l.length + zs.length) old 3
      have hcm : grownCap w (l.length + zs.length) old 3 ≤ maxLen := grownCap_le_maxLen w (l.length + zs.length) old _ (by simp only [maxLen]; omega)
      refine .inr ⟨w.heap.size, 0, _, _, by rw [List.length_append], .inr ⟨Nat.le_refl _, by simp⟩, heap_alloc_new w.drew _, ?_, by rw [List.length_append]; exact hge, by simpa [maxLen] using hcm, fun j hj => ?_, hfit2⟩
      · simp only [Array.size_append, List.size_toArray, List.length_map, Builtin.zeroCells]
        simp [Value.cells]
        omega
      · rw [List.length_append] at hj
        have e : (((l.map (Value.int .i64)).toArray ++ (zs.map (Value.int .i64)).toArray) : Array Value) = ((l ++ zs).map (Value.int .i64)).toArray := by simp
        rw [e, Nat.zero_add, Array.getElem?_append_left (by simp; omega)]
        have hjj : j < (l ++ zs).length := by simp; omega
        simp only [List.getElem?_toArray, List.getElem?_map, List.getD]
        rw [List.getElem?_eq_getElem hjj]
        rfl
    have hpos : 0 < zs.length := by cases zs with | nil => exact absurd rfl h0 | cons a t => simp
    rcases h with ⟨rfl, rfl⟩ | ⟨g, off, cp, cs, rfl, hg, hh, h1, h2, h3, h4, h5⟩
    · have hr := run_append_nil (P := Tryz.prog) (w := w) 23 ty 3 i (.int .i64 0) u hi hz0 ⟨b, o, none⟩ zs.length c _ hln hnews hpos (by omega) (by rw [hby]; omega)
      have hgr := grown 0
      simp only [List.length_nil, Nat.zero_add, List.map_nil, Array.empty_append, List.nil_append] at hgr
      exact ⟨_, _, hr, by simpa using hgr, ⟨rfl, rfl, rfl, by simp, fun k hk _ => Below.heap_alloc w.drew _ k hk⟩, by simp⟩
    · by_cases hroom : l.length + zs.length ≤ cp
      · have hf := run_firstCells_some (P := Tryz.prog) w i.size zs.length ⟨b, o, none⟩ zs.length c _ hln hnews
        have hst := run_storeCells_at Tryz.prog g (off + l.length) 3 (zs.map (Value.int .i64)) 0 cs w hh (by simp; omega) one
        simp only [Nat.add_zero] at hst
        have hrun : (Builtin.append_ #[23, 23] ty #[.slice (some ⟨g, off, none⟩) l.length cp, .slice (some ⟨b, o, none⟩) zs.length c]).run Tryz.prog w = .ok (.slice (some ⟨g, off, none⟩) (l.length + zs.length) cp) (w.setRow g (cs.toList.take (off + l.length) ++ zs.map (Value.int .i64) ++ cs.toList.drop (off + l.length + (zs.map (Value.int .i64)).length)).toArray) := by
          simp [Builtin.append_, run_underlying u, sizeOf, typeInfo, hi, Builtin.lenOf, hroom, hf, Addr.add_lit]
          rw [hs1, Nat.mul_one, hst]
          simp
        refine ⟨_, _, hrun, .inr ⟨g, off, cp, _, by rw [List.length_append], .inl hg, setRow_heap w g cs _ _ _ hh, ?_, by rw [List.length_append]; exact hroom, h3, fun j hj => ?_, hfit2⟩, ⟨rfl, rfl, rfl, by simp, fun k _ hk => setRow_other w g k _ (fun e => hk (by simp [Value.ownBlock, e]))⟩, by simp⟩
        · simp; omega
        · rw [List.length_append] at hj
          have hsz : cs.toList.length = cs.size := by simp
          simp only [List.getElem?_toArray]
          by_cases hjl : j < l.length
          · rw [List.append_assoc, List.getElem?_append_left (by simp; omega), List.getElem?_take, if_pos (by omega)]
            have := h4 j hjl
            simp only [Array.getElem?_toList, this]
            simp [List.getD, hjl, List.getElem?_append_left hjl]
          · rw [List.append_assoc, List.getElem?_append_right (by simp; omega), List.getElem?_append_left (by simp; omega)]
            have e : off + j - (cs.toList.take (off + l.length)).length = j - l.length := by simp; omega
            rw [e]
            simp [List.getD, List.getElem?_append_right (Nat.le_of_not_lt hjl), show j - l.length < zs.length by omega]
      · have holds : ∀ j x, (l.map (Value.int .i64))[j]? = some x → w.cell? ((⟨g, off, none⟩ : Addr).add j) = some x := fun j x hx => by
          have hj : j < l.length := by simpa using (List.getElem?_eq_some_iff.1 hx).1
          rw [Addr.add_lit, box_cell hh, h4 j hj, ← hx]
          simp [List.getD, hj]
        have hr := run_append_grow (P := Tryz.prog) (w := w) 23 ty 3 i (.int .i64 0) u hi hz0 ⟨g, off, none⟩ l.length cp _ (by rw [hs1]; simp) holds ⟨b, o, none⟩ zs.length c _ hln hnews (by omega) (by omega) (growslice_fits (by omega) (by rw [hby]; omega))
        exact ⟨_, _, hr, grown cp, ⟨rfl, rfl, rfl, by simp, fun k hk _ => Below.heap_alloc w.drew _ k hk⟩, by simp⟩

theorem wpList_scr {w : World} {ops : Array Oper} {rest : List Oper} {o : Oper} {a : Act} {Q : Exit → Act → World → Prop} (hgd : o.guard = none) (s x : Operand) (ho : o.op = .call { callee := .builtin .append, args := #[s, x], argTypes := #[23, 23] }) (v X v' : Value) (w' : World) (hs : a.eval s = v) (hx : a.eval x = X)
    (hrun : (Builtin.append_ #[23, 23] o.type #[v, X]).run Tryz.prog w = .ok v' w') (h : wpList Tryz.prog ops Q rest (a.put o.dst v') w') : wpList Tryz.prog ops Q (o :: rest) a w := by
  refine wpList_plain hgd fun K hK => ?_
  unfold Oper.wp execOp
  simp only [ho, resolve, invoke, builtin, Sem.run_bind, Sem.run_pure, Result.andThen_ok, List.map_toArray, List.map_cons, List.map_nil, hs, hx, hrun]
  exact hK _ _ h

def St.S.scripted (s : St.S) (zs : List Int) : St.S := { s with script := s.script ++ zs }
set_option maxRecDepth 100000 in
set_option maxHeartbeats 1000000 in
theorem StS.script {w0 w : World} {S D : Nat → Prop} {sb n : Nat} {s : St.S} (h : StS w0 S D sb s n w) (A : Option Addr) (c m : Nat) (zs : List Int) (hz : IntsArg w A c zs) (hm : zs.length = m) (hl : s.script.length + m ≤ 1000000) :
    Calls Tryz.prog 9 #[.pointer (some ⟨sb, 0, none⟩), .slice A m c] w fun e w' => e = .returned (.tuple #[]) ∧ ∃ S', StS w0 S' D sb (s.scripted zs) n w' ∧ StGo S D S' D w w' := by
  obtain ⟨ob, ub, sv, ov, pb, pv, hL⟩ := h.st
  have c3 : w.cell? ⟨sb, 3, none⟩ = some sv := box_cell hL.box 3
  have HS := hide h
  have HL := hide hL
  obtain ⟨v', w1, hrun, hscr, hg, hz1⟩ := scr_append hL.scr A m c zs hz hm hl 23
  have hown : ∀ k, sv.ownBlock = some k → S k ∧ ∃ cs, w.heap[k]? = some (.cells cs 3 (0, 0)) := fun k hk => by
    rcases hL.scr with ⟨rfl, _⟩ | ⟨g, off, cp, cs, rfl, hg, hh, _⟩
    · cases hk
    · injection hk with hk; subst hk; exact ⟨hg, cs, hh⟩
  have hsbo : sv.ownBlock ≠ some sb := fun e => by
    obtain ⟨_, cs, hcs⟩ := hown sb e
    rw [hL.box] at hcs; injection hcs with hcs; injection hcs with _ hcs _; exact absurd hcs (by decide)
  have hbx1 := (hg.block sb (hL.lt _ (.inl hL.msb)) (Ne.symm hsbo)).trans hL.box
  have f3 := box_free hbx1 3
  have c31 : w1.cell? ⟨sb, 3, none⟩ = some sv := box_cell hbx1 3
  have hch : Chg S w (w1.setCell ⟨sb, 3, none⟩ v') := (Chg.of_grown hg fun k hk => (hown k hk).1).then (Chg.setCell _ _ _ _ hL.msb)
  have HF : Hid (∃ S', StS w0 S' D sb (s.scripted zs) n (w1.setCell ⟨sb, 3, none⟩ v') ∧ StGo S D S' D w (w1.setCell ⟨sb, 3, none⟩ v')) := hide (by
    have hsz : (w1.setCell ⟨sb, 3, none⟩ v').heap.size = w1.heap.size := by simp
    have hUp : ∀ k, Up S w w1 k → Up S w (w1.setCell ⟨sb, 3, none⟩ v') k := fun k hk => by rcases hk with hk | hk; exact .inl hk; exact .inr (by omega)
    refine ⟨Up S w (w1.setCell ⟨sb, 3, none⟩ v'), ⟨⟨ob, ub, v', ov, pb, pv, hL.boxed (T := Up S w (w1.setCell ⟨sb, 3, none⟩ v')) (s' := s.scripted zs) ?_ (by have := hg.size; omega) (fun k hk hl hx => ?_) (fun _ h => .inl h) (fun _ h => h) rfl rfl ?_ (Int.le_refl _) hL.last.2 (Nat.le_refl _)⟩, fun k hk => ?_, h.below.trans (hch.below h.below.size fun k hk => h.lo k (.inl hk)), h.calls, h.failed⟩, ⟨hch, fun _ h => h, fun _ h => .inl h⟩⟩
    · rw [heap_set hbx1 3 v']
      simp [stCells, St.S.scripted]
    · rw [Below.heap_setCell _ _ _ _ hk]
      exact hg.block k hl fun e => hx (hown k e.symm)
    · refine (hscr.kept fun k _ hl ⟨cs, hcs⟩ => Below.heap_setCell _ _ _ _ fun e => ?_).mono hUp
      subst e
      rw [hbx1] at hcs; injection hcs with hcs; injection hcs with _ hcs _; exact absurd hcs (by decide)
    · rcases hk with (hk | hk) | hk
      · exact h.lo k (.inl hk)
      · have := h.below.size; omega
      · exact h.lo k (.inr hk))
  obtain ⟨A0, c0, hsv⟩ := hL.scr.val
  obtain ⟨A1, c1, rfl⟩ := hscr.val
  have HR := hide hrun
  have HM := hide hm
  rw [List.length_append, hm] at HR
  subst hsv
  clear h hL hz hl hrun hscr hg hown hsbo hbx1 hch HS HL
  go_enter Tryz.func9, Tryz.ntmps9
  go_wp2_with (at_builtin; refine wpList_scr rfl (.tmp 8) (.tmp 9) rfl _ _ _ _ rfl rfl HR.out ?_)
  go_end0
  rw [List.length_append, HM.out] at HF
  exact ⟨rfl, HF.out⟩

theorem map_alloc_at (w : World) (o : Obj) (k : Nat) (h : k < w.heap.size) : (w.alloc o).heap[k]? = w.heap[k]? := Below.heap_alloc _ _ k h
set_option maxRecDepth 100000 in
theorem stNew_any (w0 w : World) (hb : Below w0.heap.size w0 w) :
    Calls Tryz.prog 6 #[] w fun e w' => ∃ sb S, e = .returned (.pointer (some ⟨sb, 0, none⟩)) ∧ StS w0 S (fun _ => False) sb St.S.new 0 w' ∧ (∀ k, S k → w.heap.size ≤ k) ∧ Below w.heap.size w w' := by
  have mk := fun (t : TypeId) (W : World) => run_makeMap (P := Tryz.prog) t W
  go_enter Tryz.func6, Tryz.ntmps6
  go_wp2_with fail
  go_ret
  have e1 : (w.alloc (.map #[] 0)).heap.size = w.heap.size + 1 := by simp
  have e2 : ((w.alloc (.map #[] 0)).alloc (.map #[] 0)).heap.size = w.heap.size + 2 := by simp
  obtain ⟨W, hW⟩ : ∃ W, W = (((w.alloc (.map #[] 0)).alloc (.map #[] 0)).alloc (.cells #[.map (some w.heap.size), .map (some (w.heap.size + 1)), .int .i64 0, .slice none 0 0, .int .i64 0, .int .i64 0] 51)) := ⟨_, rfl⟩
  have hbW : Below w.heap.size w W := hW ▸ balloc (balloc (balloc (Below.refl _ _) _) _) _
  have hz : W.heap.size = w.heap.size + 3 := by rw [hW]; simp
  rw [← hW]
  refine ⟨_, fun k => k = w.heap.size ∨ k = w.heap.size + 1 ∨ k = w.heap.size + 2, rfl, ⟨⟨w.heap.size, w.heap.size + 1, .slice none 0 0, fun _ => none, fun _ => 0, fun _ _ => none, ?_⟩, fun k hk => ?_, hb.trans (hbW.mono hb.size), ⟨by simp [St.S.new], by simp [St.S.new]⟩, ⟨by simp [St.S.new], by simp [St.S.new]⟩⟩, fun k hk => (by omega), hbW⟩
  · refine ⟨?_, (MapV.made w).same ?_, fun k => trivial, ?_, fun i u hu => by simp [St.S.new] at hu, fun i j hi => absurd rfl hi, by omega, .inl ⟨rfl, rfl⟩, .inr (.inr rfl), .inl rfl, .inr (.inl rfl), fun k _ h => h, fun k hk => ?_, fun k hk => absurd rfl hk, ⟨by simp [St.S.new], by simp [St.S.new]⟩⟩
    · rw [hW, ← e2, heap_alloc_new]; rfl
    · rw [hW, map_alloc_at _ _ _ (by rw [e2]; omega), map_alloc_at _ _ _ (by rw [e1]; omega)]
    · have h1 := MapV.made (κ := Int) (kt := 3) (mk := fun k : Int => Lit.int .i64 k) (w.alloc (.map #[] 0))
      rw [e1] at h1
      have h2 := h1.same (w' := W) (by rw [hW, map_alloc_at _ _ _ (by rw [e2]; omega)])
      exact h2
    · rcases hk with hk | hk
      · omega
      · exact hk.elim
  · rcases hk with hk | hk
    · have := hb.size; omega
    · exact hk.elim

set_option maxRecDepth 100000 in
set_option maxHeartbeats 1000000 in
/-- An object's bytes, and whether there is one. -/
theorem StS.bytes {w0 w : World} {S D : Nat → Prop} {sb n : Nat} {s : St.S} (h : StS w0 S D sb s n w) (k : List UInt8) (hk : k.length ≤ 1000000000) : Calls Tryz.prog 12 #[.pointer (some ⟨sb, 0, none⟩), encStr k] w fun e w' => ∃ v, e = .returned (.tuple #[v, .bool (s.objs k).isSome]) ∧ Own w' w.heap.size v ((s.objs k).getD []) ∧ Below w.heap.size w w' := by
  obtain ⟨ob, ub, sv, ov, pb, pv, hL⟩ := h.st
  have c0 : w.cell? ⟨sb, 0, none⟩ = some (.map (some ob)) := box_cell hL.box 0
  have hl := hL.objs.look strK map_objs (zero_bytes w) k (strKey (by omega))
  have hb := hL.oat k
  have hv : ∃ A n c, (ov k).getD (.slice none 0 0) = .slice A n c ∧ ((s.objs k).getD []).length = n ∧ n ≤ 1000000000 ∧ Arg w A c ((s.objs k).getD []) ∧ (ov k).isSome = (s.objs k).isSome := by
    cases h1 : ov k with
    | none =>
      cases h2 : s.objs k with
      | none => exact ⟨none, 0, 0, rfl, rfl, by omega, ⟨by simp, by omega, fun _ => rfl, .inl rfl⟩, rfl⟩
      | some b => rw [h1, h2] at hb; exact hb.elim
    | some v =>
      cases h2 : s.objs k with
      | none => rw [h1, h2] at hb; exact hb.elim
      | some b =>
        rw [h1, h2] at hb
        obtain ⟨A, c, rfl, q1, q2, q3, q4, q5, _⟩ := hb
        exact ⟨A, _, c, rfl, rfl, by omega, ⟨q1, q2, q4, q5⟩, rfl⟩
  obtain ⟨A, m, c, e1, e2, e3, ha, e4⟩ := hv
  rw [e1, e4] at hl
  have HC := hide (bclone_any A c m _ w e2 e3 ha)
  clear h hL hb e1 e2 ha e4
  generalize (s.objs k).isSome = is at *
  generalize (s.objs k).getD [] = b at *
  go_enter Tryz.func12, Tryz.ntmps12
  go_wp2_with (first
    | (go_at_call 23; refine HC.out.mono ?_; rintro e w1 ⟨v, rfl, ho, hb⟩; have HO := hide ho; have HB := hide hb; clear ho hb)
    | fail)
  go_returns
  exact ⟨v, rfl, HO.out, HB.out⟩
end Go.Proofs.YtegaahcelogmlaaGreatDoor

namespace Go.Proofs.YtegaahcelogmlaaGreatDoor
open Go.RowKit Go.Maps

theorem IntsArg.made (w : World) (zs : List Int) (cs : Array Value) (e : TypeId) (n : Nat) (hc : (zs.map (Value.int .i64)).toArray = cs) (hn : zs.length = n) (hn2 : n ≤ 1000000) (hz : ∀ z ∈ zs, -9223372036854775808 ≤ z ∧ z ≤ 9223372036854775807) : IntsArg (w.alloc (.cells cs e)) (some ⟨w.heap.size, 0, none⟩) n zs := by
  subst hc hn
  refine ⟨Nat.le_refl _, by omega, fun e => (by cases e), fun j hj => ⟨_, _, rfl, ?_⟩, hz⟩
  rw [World.cell?_alloc_mark]
  simp [hj, List.getD]
theorem Arg.made (w : World) (l : List UInt8) (cs : Array Value) (e : TypeId) (fr : Nat × Nat) (n : Nat) (hc : (cells l).toArray = cs) (hn : l.length = n) (hn2 : n ≤ 1000000) : Arg (w.alloc (.cells cs e fr)) (some ⟨w.heap.size, 0, none⟩) n l :=
  ⟨by omega, by omega, fun h => (by cases h), Reads.made w l cs e fr _ rfl hc⟩
/-- string(b) -/
theorem str_of {w : World} {A : Option Addr} {c : Nat} {l : List UInt8} (h : Arg w A c l) : (convert 22 9 (.slice A l.length c)).run Tryz.prog w = .ok (encStr l) w := by
  cases A with
  | none =>
    obtain rfl : l = [] := by
      have := h.nil rfl
      have := h.le
      exact List.eq_nil_of_length_eq_zero (by omega)
    rw [run_convert_bytes_string w _ _ 5 none _ c Tryz.underlying22 Tryz.underlying5 Tryz.underlying9]
    rfl
  | some a =>
    refine run_convert_bytes_back w _ _ _ _ c l Tryz.underlying22 Tryz.underlying5 Tryz.underlying9 fun j hj => ?_
    rcases h.reads with rfl | ⟨b, off, e, _, hc⟩
    · simp at hj
    · injection e with e; subst e
      rw [show (⟨b, off, none⟩ : Addr).add j = ⟨b, off + j, none⟩ from by rw [Addr.add_lit], hc j hj]
      simp [B, List.getD, hj]
theorem str_of_n {w : World} {A : Option Addr} {c n : Nat} {l : List UInt8} (h : Arg w A c l) (hn : l.length = n) : (convert 22 9 (.slice A n c)).run Tryz.prog w = .ok (encStr l) w := by
  subst hn; exact str_of h
theorem Arg.madeAt (w : World) (l : List UInt8) (cs : Array Value) (e : TypeId) (fr : Nat × Nat) (n g : Nat) (hg : g = w.heap.size) (hc : (cells l).toArray = cs) (hn : l.length = n) (hn2 : n ≤ 1000000) : Arg (w.alloc (.cells cs e fr)) (some ⟨g, 0, none⟩) n l := by
  subst hg; exact Arg.made w l cs e fr n hc hn hn2
theorem St.first_put : ((St.S.new.scripted [2]).put [97] [120]).1.2 = some 10 ∧ ((St.S.new.scripted [2]).put [97] [120]).2.objs [97] = some [120] := by
  have hv : Dk.valid [97] = true := by decide
  constructor
  · simp [St.S.put, St.S.ask, St.S.out, St.S.scripted, St.S.new]
  · simp [St.S.put, St.S.ask, St.S.out, St.S.scripted, St.S.new, St.S.putF, hv, St.S.took, St.upd]

end Go.Proofs.YtegaahcelogmlaaGreatDoor
