/-
  Package seg: what take makes of any bytes, by the batches that they begin with.
  Package seg: a disk that has one file of any bytes, which is opened, cut and synced, plainly.
-/
import Derived.Test.YtfdppggdgdnnaaaGreatDoorZ17
import Derived.Test.YtfdppggdgdnnaaaGreatDoorZ26
import Derived.Test.YtfdppggdgdnnaaaGreatDoorZ19
namespace Go.Proofs.YtfdppggdgdnnaaaGreatDoor
namespace Sg
/-- What was read as a batch is just its bytes. -/
theorem rcanon (l : List UInt8) (h : Rc.rcode l = 0) : Rc.bytes (Rc.parse (Rc.rbody l)) = l.take (Rc.rsize l) := by
  have hs : Rc.rsize l = 8 + Rc.rn l := by unfold Rc.rsize; rw [if_pos h]
  rw [hs]
  unfold Rc.rcode at h
  split at h
  · omega
  · split at h
    · omega
    · split at h
      · omega
      · split at h
        · omega
        · split at h
          · rename_i h8 _ hn hsum hok
            exact (Rc.bytes_eq l _ (by omega) (by omega) (by simpa using hsum)).2 (Rc.okay_canon hok).2
          · omega
theorem rsize_bytes (l : List UInt8) (h : Rc.rcode l = 0) : (Rc.bytes (Rc.parse (Rc.rbody l))).length = Rc.rsize l := by
  rw [rcanon l h, List.length_take, Nat.min_eq_left (Rc.rsize_le l h).2]
theorem takeGo_all (l : List UInt8) : ∀ (f at_ : Nat) (s : St), s.at_ = at_ → 0 ≤ (last s.edges).pos → at_ ≤ l.length → l.length - at_ ≤ f →
    ∃ (ys : List Rc.Bat) (k : Nat), (∀ acc, (Rc.allGo l f at_ acc).1 = acc ++ ys) ∧ k ≤ ys.length ∧ takeGo l (f + 1) s = adds s (ys.take k) ∧ Chain s (ys.take k) ∧ (∀ b ∈ ys, Rc.Good b) ∧ (∃ rest, l.drop at_ = (ys.take k).flatMap Rc.bytes ++ rest) ∧ ∀ h : k < ys.length, follows (adds s (ys.take k)).edges ys[k] = false := by
  intro f
  induction f with
  | zero =>
    intro at_ s hs h0 hl hf
    have e : l.drop at_ = [] := List.drop_eq_nil_of_le (by omega)
    refine ⟨[], 0, fun acc => by simp [Rc.allGo], Nat.le_refl _, ?_, trivial, fun b hb => (by cases hb), ⟨_, rfl⟩, fun h => absurd h (by simp)⟩
    rw [takeGo]
    unfold next
    rw [hs, e, if_neg (by intro h; exact rcode_nil h.1)]
    rfl
  | succ f ih =>
    intro at_ s hs h0 hl hf
    by_cases hlt : at_ < l.length
    · by_cases hc : Rc.rcode (l.drop at_) = 0
      · obtain ⟨b, hb⟩ : ∃ b, b = Rc.parse (Rc.rbody (l.drop at_)) := ⟨_, rfl⟩
        have hn := rsize_bytes _ hc
        have hcan := rcanon _ hc
        have hsz := Rc.rsize_le _ hc
        have hg := rgood _ hc
        rw [← hb] at hn hcan hg
        rw [List.length_drop] at hsz
        have ha : (s.add b (Rc.rsize (l.drop at_))).at_ = at_ + Rc.rsize (l.drop at_) := by rw [add_at s h0, hs]
        obtain ⟨ys, k, e1, hk, e2, hch, hgd, ⟨rest, hr⟩, hno⟩ := ih _ _ ha (by unfold St.add; rw [last_snoc]; simp only [step]; omega) (by omega) (by omega)
        have eall : ∀ acc, (Rc.allGo l (f + 1) at_ acc).1 = acc ++ b :: ys := fun acc => by
          rw [Rc.allGo, if_pos hlt, if_pos hc, e1, ← hb, List.append_assoc]
          rfl
        have hgd' : ∀ x ∈ b :: ys, Rc.Good x := fun x hx => by
          rcases List.mem_cons.1 hx with rfl | hx
          · exact hg
          · exact hgd x hx
        by_cases hfo : follows s.edges b = true
        · refine ⟨b :: ys, k + 1, eall, by simp; omega, ?_, ⟨hfo, ?_⟩, hgd', ⟨rest, ?_⟩, fun h => ?_⟩
          · rw [takeGo]
            unfold next
            rw [hs, ← hb, if_pos ⟨hc, hfo⟩]
            simp only [List.take_succ_cons, adds_cons]
            rw [e2, ← hn]
          · rw [hn]; exact hch
          · rw [List.take_succ_cons, List.flatMap_cons, hcan, List.append_assoc, ← hr, ← List.drop_drop]
            exact (List.take_append_drop _ _).symm
          · have h2 := hno (by simpa using h)
            simp only [List.take_succ_cons, adds_cons, List.getElem_cons_succ]
            rw [hn]
            exact h2
        · refine ⟨b :: ys, 0, eall, Nat.zero_le _, ?_, trivial, hgd', ⟨_, rfl⟩, fun h => ?_⟩
          · rw [takeGo]
            unfold next
            rw [hs, ← hb, if_neg (by rintro ⟨_, h⟩; exact hfo h)]
            rfl
          · simpa [adds_nil] using hfo
      · refine ⟨[], 0, fun acc => ?_, Nat.le_refl _, ?_, trivial, fun b hb => (by cases hb), ⟨_, rfl⟩, fun h => absurd h (by simp)⟩
        · rw [Rc.allGo, if_pos hlt, if_neg hc, List.append_nil]
        · rw [takeGo]
          unfold next
          rw [hs, if_neg (by rintro ⟨h, _⟩; exact hc h)]
          rfl
    · have e : l.drop at_ = [] := List.drop_eq_nil_of_le (by omega)
      refine ⟨[], 0, fun acc => ?_, Nat.le_refl _, ?_, trivial, fun b hb => (by cases hb), ⟨_, rfl⟩, fun h => absurd h (by simp)⟩
      · rw [Rc.allGo, if_neg hlt, List.append_nil]
      · rw [takeGo]
        unfold next
        rw [hs, e, if_neg (by intro h; exact rcode_nil h.1)]
        rfl
/-- The file of any bytes read. -/
theorem take_all (l : List UInt8) (s : St) (h0 : (last s.edges).pos = 0) :
    ∃ k : Nat, k ≤ (Rc.all l).1.length ∧ take l s = adds s ((Rc.all l).1.take k) ∧ Chain s ((Rc.all l).1.take k) ∧ (∀ b ∈ (Rc.all l).1, Rc.Good b) ∧ (∃ rest, l = ((Rc.all l).1.take k).flatMap Rc.bytes ++ rest) ∧ ∀ h : k < (Rc.all l).1.length, follows (adds s ((Rc.all l).1.take k)).edges (Rc.all l).1[k] = false := by
  have ha : s.at_ = 0 := by unfold St.at_; rw [h0]; rfl
  obtain ⟨ys, k, e1, hk, e2, hch, hgd, hr, hno⟩ := takeGo_all l l.length 0 s ha (by omega) (Nat.zero_le _) (by omega)
  have e : (Rc.all l).1 = ys := by unfold Rc.all; rw [e1]; rfl
  subst e
  refine ⟨k, hk, ?_, hch, hgd, hr, hno⟩
  unfold take
  rw [ha]
  exact e2
end Sg
end Go.Proofs.YtfdppggdgdnnaaaGreatDoor

namespace Go.Proofs.YtfdppggdgdnnaaaGreatDoor
theorem bytes_disk (k : Dk.Nm) (hv : Dk.valid k = true) (raw : List UInt8) (hr : raw.length ≤ 1000) :
    ∃ d1 : Nat → Dk.St, (∀ x, (Dk.St.new 5000).create k x = (none, d1 x)) ∧ ∀ x, ∃ d2, (d1 x).append k raw = (none, d2) ∧ (d2.find k).1 = none ∧ d2.lenOf k = (raw.length : Int) ∧ d2.readOf k 0 raw.length = (none, raw) ∧
      ∀ m : Nat, m ≤ raw.length → ∃ d3 d4, (if (m : Int) < raw.length then d2.cut k m else (none, d2)) = (none, d3) ∧ d3.sync k = (none, d4) ∧ d4.readOf k 0 m = (none, raw.take m) := by
  have key : ∀ x, ∃ t : Dk.St, (Dk.St.new 5000).create k x = (none, t) ∧ Dk.V t 5000 0 (0 + 1) (Dk.upd (fun _ => none) k (some x)) (fun _ => none) ([] ++ [⟨[], k, some x⟩]) ∧ t.files x = ⟨0, [], 0⟩ := fun x => by
    obtain ⟨t, e, v, f, _⟩ := (Dk.V.new 5000).create k x hv rfl
    exact ⟨t, e, v, f⟩
  obtain ⟨t, ht⟩ : ∃ t : Nat → Dk.St, ∀ x, (Dk.St.new 5000).create k x = (none, t x) ∧ Dk.V (t x) 5000 0 (0 + 1) (Dk.upd (fun _ => none) k (some x)) (fun _ => none) ([] ++ [⟨[], k, some x⟩]) ∧ (t x).files x = ⟨0, [], 0⟩ := ⟨fun x => (key x).choose, fun x => (key x).choose_spec⟩
  refine ⟨t, fun x => (ht x).1, fun x => ?_⟩
  obtain ⟨-, v1, f1⟩ := ht x
  have hn : Dk.upd (fun _ => none) k (some x) k = some x := Dk.upd_same _ _ _
  obtain ⟨d2, e2, v2, f2, -⟩ := v1.append k x raw hn (by omega)
  have hb2 : (d2.files x).bytes = raw := by rw [f2, f1]; rfl
  refine ⟨d2, e2, by rw [v2.find k x hn], by rw [(v2.len k x hn).1, hb2], ?_, fun m hm => ?_⟩
  · rw [v2.read k x _ hn (by rw [hb2]; exact Nat.le_refl _), hb2, List.take_length]
  · by_cases hlt : (m : Int) < raw.length
    · obtain ⟨d3, e3, v3, f3, -⟩ := v2.cut k x m hn (by rw [hb2]; exact hm)
      obtain ⟨d4, e4, v4, f4, -⟩ := v3.sync k x hn
      have hb4 : (d4.files x).bytes = raw.take m := by
        rw [f4, f3]
        show ((d2.files x).keep m).bytes = _
        unfold Dk.File.keep
        rw [hb2]
      refine ⟨d3, d4, by rw [if_pos hlt]; exact e3, e4, ?_⟩
      rw [v4.read k x m hn (by rw [hb4, List.length_take]; omega), hb4, List.take_take, Nat.min_self]
    · obtain ⟨d4, e4, v4, f4, -⟩ := v2.sync k x hn
      have hb4 : (d4.files x).bytes = raw := by rw [f4]; exact hb2
      exact ⟨d2, d4, if_neg hlt, e4, by rw [v4.read k x m hn (by rw [hb4]; exact hm), hb4]⟩
end Go.Proofs.YtfdppggdgdnnaaaGreatDoor
