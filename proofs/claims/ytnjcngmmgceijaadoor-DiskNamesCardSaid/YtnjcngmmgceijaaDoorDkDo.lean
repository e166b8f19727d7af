/-
  What was synced is there behind any crash: the states, plainly; what a walk wants of its arguments.
  DiskDown: a disk without power tells nothing and changes nothing; the states, plainly.
-/
import Derived.Test.YtnjcngmmgceijaaDoorDkFi
import Derived.Test.YtnjcngmmgceijaaDoorIs
import Derived.Test.YtnjcngmmgceijaaDoorHSame
import Derived.Test.YtnjcngmmgceijaaDoorArgsI
namespace Go.Proofs.YtnjcngmmgceijaaDoor.Dk

/-- A disk behind the crash: f is there with what was synced, and some of what was not; g is there whole, or not at all. -/
structure Kept (t : St) (i1 i2 : Nat) (a b c : Nm) (n : Nat) : Prop where
  lo : a.length ≤ n
  hi : n ≤ a.length + b.length
  find : t.find [102] = (none, some i1)
  len : t.lenOf [102] = (n : Int)
  syn : t.syncedOf [102] = (n : Int)
  read : t.readOf [102] 0 n = (none, (a ++ b).take n)
  other : (t.find [103] = (none, some i2) ∧ t.lenOf [103] = (c.length : Int)) ∨ (t.find [103] = (some 6, none) ∧ t.lenOf [103] = 0)

theorem keeps_states (i1 : Nat) (a b c : Nm) (ha : a.length ≤ 300) (hb : b.length ≤ 300) (hc : c.length ≤ 300) :
    ∃ s3 s4 s5 s6 s7, (St.new 2000).create [102] i1 = (none, s3) ∧ s3.syncDir = (none, s4) ∧ s4.append [102] a = (none, s5) ∧ s5.sync [102] = (none, s6) ∧ s6.append [102] b = (none, s7) ∧ s7.names [102] = some i1 ∧
      ∀ i2, i2 ≠ i1 → ∃ s8 s9 s10, s7.create [103] i2 = (none, s8) ∧ s8.append [103] c = (none, s9) ∧ s9.sync [103] = (none, s10) ∧
        ∀ picks ys, Order (s10.settle (pick picks 0 s10.since.length)) (s10.settle (pick picks 0 s10.since.length)).dur ys → (∀ k ∈ ys, (s10.files k).synced ≤ (s10.files k).bytes.length) → ∃ n, Kept (s10.crash picks ys) i1 i2 a b c n := by
  obtain ⟨s3, e3, v3, f3, -⟩ := (V.new 2000).create [102] i1 (by decide) rfl
  obtain ⟨s4, e4, v4, f4⟩ := v3.syncDir
  obtain ⟨s5, e5, v5, f5, -⟩ := v4.append [102] i1 a (by simp [upd]) (by omega)
  obtain ⟨s6, e6, v6, f6, -⟩ := v5.sync [102] i1 (by simp [upd])
  obtain ⟨s7, e7, v7, f7, -⟩ := v6.append [102] i1 b (by simp [upd]) (by omega)
  refine ⟨s3, s4, s5, s6, s7, e3, e4, e5, e6, e7, by rw [v7.names]; simp [upd], fun i2 hne => ?_⟩
  obtain ⟨s8, e8, v8, f8, g8⟩ := v7.create [103] i2 (by decide) (by simp [upd])
  obtain ⟨s9, e9, v9, f9, g9⟩ := v8.append [103] i2 c (by simp [upd]) (by omega)
  obtain ⟨s10, e10, v10, f10, g10⟩ := v9.sync [103] i2 (by simp [upd])
  refine ⟨s8, s9, s10, e8, e9, e10, fun picks ys hy hs => ?_⟩
  have h1 : s10.files i1 = ⟨0, a ++ b, a.length⟩ := by
    rw [g10 _ hne.symm, g9 _ hne.symm, g8 _ hne.symm, f7, f6, f5, f4, f3]
    simp
  have h2 : (s10.files i2).bytes = c ∧ (s10.files i2).synced = c.length := by
    rw [f10, f9, f8]
    simp
  obtain ⟨m, hm, -, vc, fc⟩ := v10.crash picks ys hy hs
  clear f3 f4 f5 f6 f7 f8 f9 f10 g8 g9 g10 e3 e4 e5 e6 e7 e8 e9 e10 v3 v4 v5 v6 v7 v8 v9 v10
  have hd : ∀ k, ons ([] ++ [(⟨[], [102], some i1⟩ : Mv)]) (fun _ => none) k = if k = [102] then some i1 else none := fun k => by
    simp [ons, on_to, upd]
  have hn1 : ons (([] ++ [(⟨[], [103], some i2⟩ : Mv)]).take m) (ons ([] ++ [(⟨[], [102], some i1⟩ : Mv)]) fun _ => none) [102] = some i1 := by
    match m, hm with
    | 0, _ => simp [ons, on_to, upd]
    | 1, _ => simp [ons, on_to, upd]
  have hn2 : ons (([] ++ [(⟨[], [103], some i2⟩ : Mv)]).take m) (ons ([] ++ [(⟨[], [102], some i1⟩ : Mv)]) fun _ => none) [103] = some i2 ∨ ons (([] ++ [(⟨[], [103], some i2⟩ : Mv)]).take m) (ons ([] ++ [(⟨[], [102], some i1⟩ : Mv)]) fun _ => none) [103] = none := by
    match m, hm with
    | 0, _ => exact .inr (by simp [ons, on_to, upd])
    | 1, _ => exact .inl (by simp [ons, on_to, upd])
  obtain ⟨j, -, -, hj⟩ := fc [102] i1 hn1
  rw [h1] at hj
  have hp := pick_le picks j ((a ++ b).length - a.length)
  simp only at hj
  generalize hk : pick picks j ((a ++ b).length - a.length) = k at *
  have hlen : ((s10.crash picks ys).files i1).bytes.length = a.length + k ∧ ((s10.crash picks ys).files i1).synced = a.length + k := by
    rw [hj]
    simp only [File.keep, List.length_take, List.length_append, and_true] at hp ⊢
    omega
  have hl := vc.len [102] i1 hn1
  simp only [List.length_append] at hp
  refine ⟨a.length + k, by omega, by omega, vc.find [102] i1 hn1, by rw [hl.1, hlen.1], by rw [hl.2, hlen.2], ?_, ?_⟩
  · rw [vc.read [102] i1 (a.length + k) hn1 (by rw [hlen.1]; exact Nat.le_refl _), hj]
    simp [File.keep, List.take_take]
  · rcases hn2 with hn2 | hn2
    · refine .inl ⟨vc.find [103] i2 hn2, ?_⟩
      obtain ⟨j', -, -, hj'⟩ := fc [103] i2 hn2
      rw [(vc.len [103] i2 hn2).1, hj', h2.1, h2.2, Nat.sub_self]
      have h0 := pick_le picks j' 0
      have h0' : pick picks j' 0 = 0 := by omega
      rw [h0', Nat.add_zero]
      show (((s10.files i2).bytes.take c.length).length : Int) = _
      rw [h2.1, List.take_length]
    · exact .inr ⟨vc.find_none [103] hn2, (vc.len_none [103] hn2).1⟩
end Go.Proofs.YtnjcngmmgceijaaDoor.Dk

namespace Go.Proofs.YtnjcngmmgceijaaDoor
open Go.RowKit Go.ChangeShapes Go.WideShapes Go.ChangeAt

theorem IntsArg.below {w w' : World} {C : Nat} {A : Option Addr} {c : Nat} {zs : List Int} (h : IntsArg w A c zs) (hb : Below C w w') (hC : w.heap.size ≤ C) : IntsArg w' A c zs :=
  ⟨h.le, h.max, h.nil, fun j hj => by
    obtain ⟨b, off, e, hc⟩ := h.get j hj
    refine ⟨b, off, e, (hb.cell (p := ⟨b, off + j, none⟩) ?_).trans hc⟩
    show b < C
    rcases Nat.lt_or_ge b w.heap.size with h1 | h1
    · omega
    · exfalso
      simp [World.cell?, Array.getElem?_eq_none h1] at hc, h.fit⟩
theorem IntsArg.lt {w : World} {A : Option Addr} {c : Nat} {zs : List Int} (h : IntsArg w A c zs) (x o : Nat) (e : A = some ⟨x, o, none⟩) (hz : zs ≠ []) : x < w.heap.size := by
  obtain ⟨b, off, e', hc⟩ := h.get 0 (List.length_pos_iff.2 hz)
  rw [e] at e'
  cases e'
  rcases Nat.lt_or_ge x w.heap.size with h1 | h1
  · exact h1
  · exfalso
    simp [World.cell?, Array.getElem?_eq_none h1] at hc
theorem Arg.lt {w : World} {A : Option Addr} {c : Nat} {l : List UInt8} (h : Arg w A c l) (x o : Nat) (e : A = some ⟨x, o, none⟩) (hl : l ≠ []) : x < w.heap.size := by
  rcases h.reads with h1 | ⟨b, off, h1, h2, -⟩
  · exact absurd h1 hl
  · rw [h1] at e; cases e; exact h2
theorem intsCap_of {H : Type} {enc : TypeId × Value → H} {W : World} {base : Nat} {spare : Nat → Bool} {held : Bool} {a : Option Addr} {len cap : Nat} {d : DataW H} {p : List MemPlace}
    (h : DataW.Trod enc Tryd.prog W base spare held 22 (.slice a len cap) d p) : a = none → cap = 0 := by
  obtain ⟨fuel, hf⟩ := h
  rcases open_ints Tryd.underlying22 Tryd.underlying3 cells_int hf with ⟨hcs, _⟩ | ⟨x, l, c, zs, hcs, _⟩
  · simp [Value.cells] at hcs
    obtain ⟨rfl, rfl, rfl⟩ := hcs
    exact fun _ => rfl
  · simp [Value.cells] at hcs
    obtain ⟨rfl, rfl, rfl⟩ := hcs
    intro e
    cases e
theorem intsArg_of {W : World} {A : Option Addr} {cap : Nat} {zs : List Int} (le : zs.length ≤ cap) (mx : cap ≤ 9223372036854775807) (hi : Ints W A zs) (hz : ∀ k, k < zs.length → -9223372036854775808 ≤ zs.getD k 0 ∧ zs.getD k 0 ≤ 9223372036854775807) (hn : A = none → cap = 0) : IntsArg W A cap zs :=
  ⟨le, mx, hn, fun j hj => by
    rcases hi with h | ⟨b, off, e, -, hc⟩
    · subst h; exact absurd hj (Nat.not_lt_zero _)
    · exact ⟨b, off, e, hc j hj⟩, fun z hz' => by
    obtain ⟨k, hk, rfl⟩ := List.getElem_of_mem hz'
    have := hz k hk
    simpa [List.getD, List.getElem?_eq_getElem hk] using this⟩
theorem own_n {w : World} {base n : Nat} {v : Value} {l : List UInt8} (h : Own w base v l) (hl : l.length = n) : ∃ A c, v = .slice A n c ∧ Arg w A c l := by
  obtain ⟨A, c, hv, ha⟩ := h.arg
  exact ⟨A, c, by rw [hv, hl], ha⟩
end Go.Proofs.YtnjcngmmgceijaaDoor

namespace Go.Proofs.YtnjcngmmgceijaaDoor.Dk

/-- A disk whose power is gone. -/
structure Off (s : St) : Prop where
  down : s.down = true
  armed : s.armed = 0
theorem Off.begin {s : St} (h : Off s) : s.begin = s := by
  unfold St.begin; rw [if_neg (by have := h.armed; omega)]
theorem Off.find {s : St} (h : Off s) (k : Nm) : s.find k = (some 9, none) := by
  unfold St.find; rw [h.down, if_pos rfl]
theorem Off.create {s : St} (h : Off s) (k : Nm) (i : Nat) : s.create k i = (some 9, s) := by
  unfold St.create; rw [h.begin, h.down, if_pos rfl]
theorem Off.append {s : St} (h : Off s) (k b : Nm) : s.append k b = (some 9, s) := by
  unfold St.append; rw [h.begin, h.find]
theorem Off.cut {s : St} (h : Off s) (k : Nm) (n : Int) : s.cut k n = (some 9, s) := by
  unfold St.cut; rw [h.begin, h.find]
theorem Off.sync {s : St} (h : Off s) (k : Nm) : s.sync k = (some 9, s) := by
  unfold St.sync; rw [h.begin, h.find]
theorem Off.rename {s : St} (h : Off s) (k to : Nm) : s.rename k to = (some 9, s) := by
  unfold St.rename; rw [h.begin, h.find]
theorem Off.remove {s : St} (h : Off s) (k : Nm) : s.remove k = (some 9, s) := by
  unfold St.remove; rw [h.begin, h.find]
theorem Off.syncDir {s : St} (h : Off s) : s.syncDir = (some 9, s) := by
  unfold St.syncDir; rw [h.begin, h.down, if_pos rfl]
theorem Off.read {s : St} (h : Off s) (k : Nm) (a m : Int) : (s.readOf k a m).1 = some 9 := by
  unfold St.readOf; rw [h.find]

theorem down_states (i1 : Nat) (b : Nm) (hb : b.length ≤ 50) :
    ∃ s3 s4 s5 s6 s8, (St.new 500).create [97] i1 = (none, s3) ∧ s3.append [97] b = (none, s4) ∧ s4.sync [97] = (none, s5) ∧ s5.syncDir = (none, s6) ∧ ({ s6 with armed := 1 } : St).syncDir = (some 9, s8) ∧ Off s8 ∧
      ∀ ys, Order (s8.settle (pick [] 0 s8.since.length)) (s8.settle (pick [] 0 s8.since.length)).dur ys → (∀ x ∈ ys, (s8.files x).synced ≤ (s8.files x).bytes.length) →
        (s8.crash [] ys).down = false ∧ (s8.crash [] ys).readOf [97] 0 (b.length : Int) = (none, b) ∧ ∀ i, ((s8.crash [] ys).create [98] i).1 = none := by
  obtain ⟨s3, e3, v3, f3, -⟩ := (V.new 500).create [97] i1 (by decide) rfl
  obtain ⟨s4, e4, v4, f4, -⟩ := v3.append [97] i1 b (by simp [upd]) (by omega)
  obtain ⟨s5, e5, v5, f5, -⟩ := v4.sync [97] i1 (by simp [upd])
  obtain ⟨s6, e6, v6, f6⟩ := v5.syncDir
  have h6 : s6.files i1 = ⟨0, b, b.length⟩ := by rw [f6, f5, f4, f3]; simp
  refine ⟨s3, s4, s5, s6, { s6 with armed := 0, down := true }, e3, e4, e5, e6, ?_, ⟨rfl, rfl⟩, fun ys hy hs => ?_⟩
  · have hbg : ({ s6 with armed := 1 } : St).begin = { s6 with armed := 0, down := true } := by
      unfold St.begin
      rw [if_pos (by show (0 : Int) < 1; omega)]
      simp
    unfold St.syncDir
    rw [hbg, if_pos rfl]
  · obtain ⟨a1, a2, a3, a4, a5, a6, a7⟩ := crash_names ({ s6 with armed := 0, down := true } : St) [] ys
    have hn : ons (({ s6 with armed := 0, down := true } : St).since.take (pick [] 0 ({ s6 with armed := 0, down := true } : St).since.length)) ({ s6 with armed := 0, down := true } : St).dur = upd (fun _ => none) [97] (some i1) := by
      show ons (s6.since.take _) s6.dur = _
      rw [v6.since, v6.dur]
      simp [ons, on_to]
    rw [hn] at a1 a2
    have vt : V (St.crash ({ s6 with armed := 0, down := true } : St) [] ys) (St.crash ({ s6 with armed := 0, down := true } : St) [] ys).room (St.crash ({ s6 with armed := 0, down := true } : St) [] ys).used (St.crash ({ s6 with armed := 0, down := true } : St) [] ys).calls (upd (fun _ => none) [97] (some i1)) (upd (fun _ => none) [97] (some i1)) [] := ⟨rfl, rfl, rfl, a1, a2, a3, a5, a4⟩
    obtain ⟨j, -, -, hj⟩ := crash_file ({ s6 with armed := 0, down := true } : St) [] ys hy hs [97] i1 (by rw [a1]; simp [upd])
    have hj' : (St.crash ({ s6 with armed := 0, down := true } : St) [] ys).files i1 = (s6.files i1).keep ((s6.files i1).synced + pick [] j ((s6.files i1).bytes.length - (s6.files i1).synced)) := hj
    rw [h6] at hj'
    have hp := pick_le [] j (b.length - b.length)
    simp only at hj'
    generalize pick [] j (b.length - b.length) = x at *
    obtain rfl : x = 0 := by omega
    have hby : ((St.crash ({ s6 with armed := 0, down := true } : St) [] ys).files i1).bytes = b := by
      rw [hj']
      simp [File.keep]
    refine ⟨a4, ?_, fun i => ?_⟩
    · rw [vt.read [97] i1 b.length (by simp [upd]) (by rw [hby]; exact Nat.le_refl _), hby, List.take_length]
    · obtain ⟨s', e', -⟩ := vt.create [98] i (by decide) (by simp [upd])
      rw [e']
end Go.Proofs.YtnjcngmmgceijaaDoor.Dk

namespace Go.Proofs.YtnjcngmmgceijaaDoor
open Go.RowKit Go.Maps

theorem Sess.down {w0 w : World} {n Bd : Nat} {s : Dk.St} (h : Sess w0 n Bd s w) : Calls Tryd.prog 21 #[.pointer (some ⟨Bd, 0, none⟩)] w fun e w' => e = .returned (.bool s.down) ∧ w' = w := down_any Bd s _ w h.disk
theorem Sess.callsC {w0 w : World} {n Bd : Nat} {s : Dk.St} (h : Sess w0 n Bd s w) : Calls Tryd.prog 22 #[.pointer (some ⟨Bd, 0, none⟩)] w fun e w' => e = .returned (.int .i64 s.calls) ∧ w' = w := calls_any Bd s _ w h.disk
theorem Sess.back {w0 w : World} {n m Bd : Nat} {s : Dk.St} (h : Sess w0 n Bd s w) (hs : Dk.Small s m) : Sess w0 m Bd s w := ⟨h.disk, h.below, hs⟩
end Go.Proofs.YtnjcngmmgceijaaDoor
