/-
  DiskCuts: the states, plainly; the walk.
-/
import Derived.Test.YtnnkgbfeheckjaaDoorDkKe
namespace Go.Proofs.YtnnkgbfeheckjaaDoor.Dk

/-- A disk behind the crash: what was left of the cut is there, and some of what came behind. -/
structure Left (t : St) (i1 k : Nat) (b c : Nm) (n : Nat) : Prop where
  lo : k ≤ n
  hi : n ≤ k + c.length
  find : t.find [102] = (none, some i1)
  len : t.lenOf [102] = (n : Int)
  read : t.readOf [102] 0 n = (none, (b.take k ++ c).take n)

theorem cuts_states (i1 : Nat) (b c : Nm) (hb : b.length ≤ 200) (hc : c.length ≤ 200) :
    ∃ s3 s4 s5, (St.new 1000).create [102] i1 = (none, s3) ∧ s3.syncDir = (none, s4) ∧ s4.append [102] b = (none, s5) ∧ s5.find [102] = (none, some i1) ∧ s5.lenOf [102] = (b.length : Int) ∧ (∀ z : Int, z < 0 ∨ (b.length : Int) < z → s5.cut [102] z = (some 4, s5)) ∧
      ∀ k : Nat, k ≤ b.length → ∃ s6 s7, (∀ z : Int, z = k → s5.cut [102] z = (none, s6)) ∧ s6.find [102] = (none, some i1) ∧ s6.syncedOf [102] = (k : Int) ∧ s6.used = (k : Int) ∧ s6.append [102] c = (none, s7) ∧
        ∀ picks ys, Order (s7.settle (pick picks 0 s7.since.length)) (s7.settle (pick picks 0 s7.since.length)).dur ys → (∀ x ∈ ys, (s7.files x).synced ≤ (s7.files x).bytes.length) → ∃ n, Left (s7.crash picks ys) i1 k b c n := by
  obtain ⟨s3, e3, v3, f3, -⟩ := (V.new 1000).create [102] i1 (by decide) rfl
  obtain ⟨s4, e4, v4, f4⟩ := v3.syncDir
  obtain ⟨s5, e5, v5, f5, -⟩ := v4.append [102] i1 b (by simp [upd]) (by omega)
  have h5 : s5.files i1 = ⟨0, b, 0⟩ := by rw [f5, f4, f3]; simp
  have hl5 := (v5.len [102] i1 (by simp [upd])).1
  rw [h5] at hl5
  refine ⟨s3, s4, s5, e3, e4, e5, v5.find [102] i1 (by simp [upd]), hl5, fun z hz => v5.cut_bad [102] i1 z (by simp [upd]) (by rw [h5]; exact hz), fun k hk => ?_⟩
  obtain ⟨s6, e6, v6, f6, -⟩ := v5.cut [102] i1 k (by simp [upd]) (by rw [h5]; exact hk)
  rw [h5] at v6 f6
  have h6 : s6.files i1 = ⟨0, b.take k, k⟩ := by rw [f6]; rfl
  have hu6 : s6.used = (k : Int) := by rw [v6.used]; simp only; omega
  obtain ⟨s7, e7, v7, f7, -⟩ := v6.append [102] i1 c (by simp [upd]) (by simp only; omega)
  have h7 : s7.files i1 = ⟨0, b.take k ++ c, k⟩ := by rw [f7, h6]
  refine ⟨s6, s7, fun z hz => by rw [hz]; exact e6, v6.find [102] i1 (by simp [upd]), by rw [(v6.len [102] i1 (by simp [upd])).2, h6], hu6, e7, fun picks ys hy hs => ?_⟩
  obtain ⟨m, hm, -, vc, fc⟩ := v7.crash picks ys hy hs
  clear f3 f4 f5 f6 f7 e3 e4 e5 e6 e7 v3 v4 v5 v6 v7
  have hn1 : ons (([] : List Mv).take m) (ons ([] ++ [(⟨[], [102], some i1⟩ : Mv)]) fun _ => none) [102] = some i1 := by simp [ons, on_to, upd]
  obtain ⟨j, -, -, hj⟩ := fc [102] i1 hn1
  rw [h7] at hj
  have htk : (b.take k).length = k := by rw [List.length_take]; omega
  have hp := pick_le picks j ((b.take k ++ c).length - k)
  simp only at hj
  generalize hx : pick picks j ((b.take k ++ c).length - k) = x at *
  rw [List.length_append, htk] at hp
  have hlen : ((s7.crash picks ys).files i1).bytes.length = k + x := by
    rw [hj]
    simp only [File.keep, List.length_take (i := k + x), List.length_append, htk]
    omega
  have hl := vc.len [102] i1 hn1
  refine ⟨k + x, by omega, by omega, vc.find [102] i1 hn1, by rw [hl.1, hlen], ?_⟩
  rw [vc.read [102] i1 (k + x) hn1 (by rw [hlen]; exact Nat.le_refl _), hj]
  simp only [File.keep, List.take_take, Nat.min_self]
end Go.Proofs.YtnnkgbfeheckjaaDoor.Dk

namespace Go.Proofs.YtnnkgbfeheckjaaDoor
open Go.RowKit Go.Maps

theorem Sess.usedC {w0 w : World} {n Bd : Nat} {s : Dk.St} (h : Sess w0 n Bd s w) : Calls Tryd.prog 31 #[.pointer (some ⟨Bd, 0, none⟩)] w fun e w' => e = .returned (.int .i64 s.used) ∧ w' = w := used_any Bd s _ w h.disk
end Go.Proofs.YtnnkgbfeheckjaaDoor
