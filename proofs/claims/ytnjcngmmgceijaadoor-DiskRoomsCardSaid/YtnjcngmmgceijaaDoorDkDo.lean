/-
  DiskDown: a disk without power tells nothing and changes nothing; the states, plainly.
-/
import Derived.Test.YtnjcngmmgceijaaDoorDkKe
namespace Go.Proofs.YtnjcngmmgceijaaDoor.Dk

/-- A disk whose power is gone. -/
structure Off (s : St) : Prop where
  down : s.down = true
  armed : s.armed = 0
theorem Off.begin {s : St} (h : Off s) : s.begin = s := by
  unfold St.begin; rw [if_neg (by have := h.armed; omega)]
theorem Off.find {s : St} (h : Off s) (k : Nm) : s.find k = (some 9, none) := by
  unfold St.find; rw [h.down, if_pos rfl]
theorem Off.create {s : St} (h : Off s) (k : Nm) (i : Nat) : s.create k i = (some 9, s) := by
  unfold St.create; rw [h.begin, h.down, if_pos rfl]
theorem Off.append {s : St} (h : Off s) (k b : Nm) : s.append k b = (some 9, s) := by
  unfold St.append; rw [h.begin, h.find]
theorem Off.cut {s : St} (h : Off s) (k : Nm) (n : Int) : s.cut k n = (some 9, s) := by
  unfold St.cut; rw [h.begin, h.find]
theorem Off.sync {s : St} (h : Off s) (k : Nm) : s.sync k = (some 9, s) := by
  unfold St.sync; rw [h.begin, h.find]
theorem Off.rename {s : St} (h : Off s) (k to : Nm) : s.rename k to = (some 9, s) := by
  unfold St.rename; rw [h.begin, h.find]
theorem Off.remove {s : St} (h : Off s) (k : Nm) : s.remove k = (some 9, s) := by
  unfold St.remove; rw [h.begin, h.find]
theorem Off.syncDir {s : St} (h : Off s) : s.syncDir = (some 9, s) := by
  unfold St.syncDir; rw [h.begin, h.down, if_pos rfl]
theorem Off.read {s : St} (h : Off s) (k : Nm) (a m : Int) : (s.readOf k a m).1 = some 9 := by
  unfold St.readOf; rw [h.find]

theorem down_states (i1 : Nat) (b : Nm) (hb : b.length ≤ 50) :
    ∃ s3 s4 s5 s6 s8, (St.new 500).create [97] i1 = (none, s3) ∧ s3.append [97] b = (none, s4) ∧ s4.sync [97] = (none, s5) ∧ s5.syncDir = (none, s6) ∧ ({ s6 with armed := 1 } : St).syncDir = (some 9, s8) ∧ Off s8 ∧
      ∀ ys, Order (s8.settle (pick [] 0 s8.since.length)) (s8.settle (pick [] 0 s8.since.length)).dur ys → (∀ x ∈ ys, (s8.files x).synced ≤ (s8.files x).bytes.length) →
        (s8.crash [] ys).down = false ∧ (s8.crash [] ys).readOf [97] 0 (b.length : Int) = (none, b) ∧ ∀ i, ((s8.crash [] ys).create [98] i).1 = none := by
  obtain ⟨s3, e3, v3, f3, -⟩ := (V.new 500).create [97] i1 (by decide) rfl
  obtain ⟨s4, e4, v4, f4, -⟩ := v3.append [97] i1 b (by simp [upd]) (by omega)
  obtain ⟨s5, e5, v5, f5, -⟩ := v4.sync [97] i1 (by simp [upd])
  obtain ⟨s6, e6, v6, f6⟩ := v5.syncDir
  have h6 : s6.files i1 = ⟨0, b, b.length⟩ := by rw [f6, f5, f4, f3]; simp
  refine ⟨s3, s4, s5, s6, { s6 with armed := 0, down := true }, e3, e4, e5, e6, ?_, ⟨rfl, rfl⟩, fun ys hy hs => ?_⟩
  · have hbg : ({ s6 with armed := 1 } : St).begin = { s6 with armed := 0, down := true } := by
      unfold St.begin
      rw [if_pos (by show (0 : Int) < 1; omega)]
      simp
    unfold St.syncDir
    rw [hbg, if_pos rfl]
  · obtain ⟨a1, a2, a3, a4, a5, a6, a7⟩ := crash_names ({ s6 with armed := 0, down := true } : St) [] ys
    have hn : ons (({ s6 with armed := 0, down := true } : St).since.take (pick [] 0 ({ s6 with armed := 0, down := true } : St).since.length)) ({ s6 with armed := 0, down := true } : St).dur = upd (fun _ => none) [97] (some i1) := by
      show ons (s6.since.take _) s6.dur = _
      rw [v6.since, v6.dur]
      simp [ons, on_to]
    rw [hn] at a1 a2
    have vt : V (St.crash ({ s6 with armed := 0, down := true } : St) [] ys) (St.crash ({ s6 with armed := 0, down := true } : St) [] ys).room (St.crash ({ s6 with armed := 0, down := true } : St) [] ys).used (St.crash ({ s6 with armed := 0, down := true } : St) [] ys).calls (upd (fun _ => none) [97] (some i1)) (upd (fun _ => none) [97] (some i1)) [] := ⟨rfl, rfl, rfl, a1, a2, a3, a5, a4⟩
    obtain ⟨j, -, -, hj⟩ := crash_file ({ s6 with armed := 0, down := true } : St) [] ys hy hs [97] i1 (by rw [a1]; simp [upd])
    have hj' : (St.crash ({ s6 with armed := 0, down := true } : St) [] ys).files i1 = (s6.files i1).keep ((s6.files i1).synced + pick [] j ((s6.files i1).bytes.length - (s6.files i1).synced)) := hj
    rw [h6] at hj'
    have hp := pick_le [] j (b.length - b.length)
    simp only at hj'
    generalize pick [] j (b.length - b.length) = x at *
    obtain rfl : x = 0 := by omega
    have hby : ((St.crash ({ s6 with armed := 0, down := true } : St) [] ys).files i1).bytes = b := by
      rw [hj']
      simp [File.keep]
    refine ⟨a4, ?_, fun i => ?_⟩
    · rw [vt.read [97] i1 b.length (by simp [upd]) (by rw [hby]; exact Nat.le_refl _), hby, List.take_length]
    · obtain ⟨s', e', -⟩ := vt.create [98] i (by decide) (by simp [upd])
      rw [e']
end Go.Proofs.YtnjcngmmgceijaaDoor.Dk

namespace Go.Proofs.YtnjcngmmgceijaaDoor
open Go.RowKit Go.Maps

theorem Sess.down {w0 w : World} {n Bd : Nat} {s : Dk.St} (h : Sess w0 n Bd s w) : Calls Tryd.prog 21 #[.pointer (some ⟨Bd, 0, none⟩)] w fun e w' => e = .returned (.bool s.down) ∧ w' = w := down_any Bd s _ w h.disk
theorem Sess.callsC {w0 w : World} {n Bd : Nat} {s : Dk.St} (h : Sess w0 n Bd s w) : Calls Tryd.prog 22 #[.pointer (some ⟨Bd, 0, none⟩)] w fun e w' => e = .returned (.int .i64 s.calls) ∧ w' = w := calls_any Bd s _ w h.disk
theorem Sess.back {w0 w : World} {n m Bd : Nat} {s : Dk.St} (h : Sess w0 n Bd s w) (hs : Dk.Small s m) : Sess w0 m Bd s w := ⟨h.disk, h.below, hs⟩
end Go.Proofs.YtnjcngmmgceijaaDoor
