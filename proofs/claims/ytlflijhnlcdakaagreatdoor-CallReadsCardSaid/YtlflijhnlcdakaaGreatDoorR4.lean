/-
  A client's Get and List.
-/
import Derived.Test.YtlflijhnlcdakaaGreatDoorR1
import Derived.Test.YtlflijhnlcdakaaGreatDoorR2
namespace Go.Proofs.YtlflijhnlcdakaaGreatDoor
open Go.RowKit Go.Maps

/-- A slot of a box, written beside a store that has changed no block but its own. -/
theorem StS.boxedC {w0 w w2 : World} {S D : Nat → Prop} {sb n vb i : Nat} {s : St.S} {cs : Array Value} {t : TypeId} (h : StS w0 S D sb s n w2) (hg : Chg S w w2) (hv : w.heap[vb]? = some (.cells cs t (0, 0))) (hS : ¬ S vb) (hD : ¬ D vb) (h0 : w0.heap.size ≤ vb) (v : Value) :
    (w2.setCell ⟨vb, i, none⟩ v).heap[vb]? = some (.cells (cs.setIfInBounds i v) t (0, 0)) ∧ StS w0 S D sb s n (w2.setCell ⟨vb, i, none⟩ v) ∧ CaGo S D (fun k => k = vb) S D w (w2.setCell ⟨vb, i, none⟩ v) :=
  h.boxed ⟨hg, fun _ h => .inl h, fun _ h => .inl h⟩ hv hS hD h0 v
theorem Own.slice {w : World} {base : Nat} {v : Value} {l : List UInt8} (h : Own w base v l) : ∃ A n c, v = .slice A n c := by
  rcases h.2 with ⟨rfl, _⟩ | ⟨g, cap, cur, rfl, _⟩
  · exact ⟨_, _, _, rfl⟩
  · exact ⟨_, _, _, rfl⟩
theorem LsV.slice {w : World} {base : Nat} {k : St.Nm} {r : Option St.S} {v : Value} (h : LsV base k r v w) : ∃ A n c, v = .slice A n c := by
  cases r with
  | none => exact ⟨_, _, _, h⟩
  | some t =>
    obtain ⟨l, _, h2⟩ := h
    rcases h2.2 with ⟨rfl, _⟩ | ⟨g, cap, cur, rfl, _⟩
    · exact ⟨_, _, _, rfl⟩
    · exact ⟨_, _, _, rfl⟩
theorem Own.set {w : World} {base b i : Nat} {v : Value} {l : List UInt8} (h : Own w base v l) (hb : b < base) (x : Value) : Own (w.setCell ⟨b, i, none⟩ x) base v l :=
  ownsRow_same h fun g e => Below.heap_setCell _ _ _ _ fun e2 => by
    have := (h.lt g e).1
    have e3 : g = b := e2
    omega
theorem LsV.set {w : World} {base b i : Nat} {k : St.Nm} {r : Option St.S} {v : Value} (h : LsV base k r v w) (hb : b < base) (x : Value) : LsV base k r v (w.setCell ⟨b, i, none⟩ x) := by
  cases r with
  | none => exact h
  | some t =>
    obtain ⟨l, h1, h2⟩ := h
    exact ⟨l, h1, ownsRow_same h2 fun g e => Below.heap_setCell _ _ _ _ fun e2 => by
      have := (World.ownsRow.lt h2 g e).1
      have e3 : g = b := e2
      omega⟩
theorem LsV.mono {w : World} {base base' : Nat} {k : St.Nm} {r : Option St.S} {v : Value} (h : LsV base k r v w) (hb : base' ≤ base) : LsV base' k r v w := by
  cases r with
  | none => exact h
  | some t => obtain ⟨l, h1, h2⟩ := h; exact ⟨l, h1, OwnT.mono h2 hb⟩

theorem St.get_in {E : Nat → Prop} (h4 : E 4) (h6 : E 6) (k : St.Nm) (off l : Int) (t : St.S) (j : Nat) (h : (St.S.getF k off l t).1.2 = some j) : E j := by
  unfold St.S.getF at h
  split at h
  · simp at h; exact h ▸ h6
  · split at h <;> simp at h; exact h ▸ h4
theorem St.list_in {E : Nat → Prop} (t : St.S) (j : Nat) (h : (St.S.listF t).1.2 = some j) : E j := by
  unfold St.S.listF at h; simp at h

set_option maxRecDepth 100000 in
set_option maxHeartbeats 4000000 in
/-- The closure of Get. -/
theorem caGet1_any {w0 w : World} {S D : Nat → Prop} {sb cb n : Nat} {s : St.S} (h : StS w0 S D sb s n w) (c0 : w.cell? ⟨cb, 0, none⟩ = some (.pointer (some ⟨sb, 0, none⟩))) (p : Nat → Addr) (hs : Sents w0 p) (hn : n ≤ 1000000) (xc x0 x1 x2 vb : Nat) (k : List UInt8) (hk : k.length ≤ 100000) (off : Int) (hoff : -9223372036854775808 ≤ off ∧ off ≤ 9223372036854775807) (l : Int) (hl : -9223372036854775808 ≤ l ∧ l ≤ 9223372036854775807)
    (c1 : w.cell? ⟨xc, 0, none⟩ = some (.pointer (some ⟨cb, 0, none⟩))) (c2 : w.cell? ⟨x0, 0, none⟩ = some (encStr k)) (c3 : w.cell? ⟨x1, 0, none⟩ = some (.int .i64 off)) (c4 : w.cell? ⟨x2, 0, none⟩ = some (.int .i64 l)) (v0 : Value) (hv : w.heap[vb]? = some (.cells #[v0] 32 (0, 0))) (hS : ¬ S vb) (hD : ¬ D vb) (h0 : w0.heap.size ≤ vb) :
    Calls Tryz.prog 107 #[.pointer (some ⟨xc, 0, none⟩), .pointer (some ⟨x0, 0, none⟩), .pointer (some ⟨x1, 0, none⟩), .pointer (some ⟨x2, 0, none⟩), .pointer (some ⟨vb, 0, none⟩)] w fun e w' => e = .returned (errR p (s.get k off l).1.2) ∧ (∃ v, w'.heap[vb]? = some (.cells #[v] 32 (0, 0)) ∧ Own w' w.heap.size v (s.get k off l).1.1) ∧ StS w0 S D sb (s.get k off l).2 (n + 1) w' ∧ CaGo S D (fun k => k = vb) S D w w' := by
  have hvl := (Array.getElem?_eq_some_iff.1 hv).1
  have HP := hide (fun (W : World) (hW : Below w.heap.size w W) => StS.get (h.grow hW) p hs hn k hk off l hoff hl)
  have HC := hide (fun (W : World) (hW : Below w.heap.size w W) (w2 : World) (hg : Chg S W w2) => ((hg.block vb (Nat.lt_of_lt_of_le hvl hW.size) hS).trans ((hW.block vb hvl).trans hv) : w2.heap[vb]? = some (.cells #[v0] 32 (0, 0))))
  have HV := hide (fun (W : World) (hW : Below w.heap.size w W) (w2 : World) (h2 : StS w0 S D sb (s.get k off l).2 (n + 1) w2) (hg : Chg S W w2) (v : Value) => h2.boxedC (i := 0) ((Chg.of_below hW).then hg) hv hS hD h0 v)
  have HVL := hide hvl
  clear h hs hn hk hoff hl hv hS hD h0 hvl
  go_enter Tryz.func107, Tryz.ntmps107
  go_wp2_with fail
  go_region_with (go_at_call 12; refine (HP.out _ (below_drewN (Below.refl _ _) _)).mono ?_; rintro e w2 ⟨v, rfl, hown, h2, hg⟩; obtain ⟨A0, n0, k0, rfl⟩ := hown.slice; have H2 := hide h2; have HG := hide hg; have HO := hide hown; have hx := HC.out _ (below_drewN (Below.refl _ _) _) w2 hg; have cv := box_cell hx 0; have fv := box_free hx 0; clear h2 hg hx hown)
  all_goals
    go_wp2_with fail
    refine bodyPost_ret (by simp [results, Tryz.results107, go_sem]; try rfl) rfl ?_
    obtain ⟨q1, q2, q3⟩ := HV.out _ (below_drewN (Below.refl _ _) _) w2 H2.out HG.out (.slice A0 n0 k0)
    exact ⟨rfl, ⟨_, q1, (HO.out.mono (by simp)).set HVL.out _⟩, q2, q3⟩

/-- What a client's Get makes of a store. -/
abbrev St.cget (t : Nat) (k : St.Nm) (off l : Int) (s : St.S) : St.Ag (St.S × List UInt8) := (St.again (St.askOf fun s => s.ask [] (St.S.getF k off l)) t (s, []))
set_option maxRecDepth 100000 in
set_option maxHeartbeats 1000000 in
theorem CaS.get {w0 w : World} {S D : Nat → Prop} {sb cb t n : Nat} {a : Int} {s : St.S} (h : CaS w0 S D sb cb t a s n w) (p : Nat → Addr) (hs : Sents w0 p) (ht : 1 ≤ t ∧ t ≤ 8) (hn : n ≤ 900000) (k : List UInt8) (hk : k.length ≤ 100000) (off : Int) (hoff : -9223372036854775808 ≤ off ∧ off ≤ 9223372036854775807) (l : Int) (hl : -9223372036854775808 ≤ l ∧ l ≤ 9223372036854775807) :
    Calls Tryz.prog 41 #[.pointer (some ⟨cb, 0, none⟩), encStr k, .int .i64 off, .int .i64 l] w fun e w' => ∃ v, e = .returned (.tuple #[v, errR p (St.again (St.askOf fun s => s.ask [] (St.S.getF k off l)) t (s, [])).r]) ∧ Own w' w.heap.size v (St.again (St.askOf fun s => s.ask [] (St.S.getF k off l)) t (s, [])).st.2 ∧ ∃ S' D', CaS w0 S' D' sb cb t (a + (St.again (St.askOf fun s => s.ask [] (St.S.getF k off l)) t (s, [])).k) (St.again (St.askOf fun s => s.ask [] (St.S.getF k off l)) t (s, [])).st.1 (n + t) w' ∧ CaGo S D (fun k => k = cb) S' D' w w' := by
  obtain ⟨W, hW⟩ : ∃ W, W = ((((w.alloc (.cells #[.pointer (some ⟨cb, 0, none⟩)] 79)).alloc (.cells #[encStr k] 9)).alloc (.cells #[.int .i64 off] 3)).alloc (.cells #[.int .i64 l] 3)).alloc (.cells #[.slice none 0 0] 32) := ⟨_, rfl⟩
  have hb : Below w.heap.size w W := hW ▸ balloc (balloc (balloc (balloc (balloc (Below.refl _ _) _) _) _) _) _
  have q0 : W.cell? ⟨w.heap.size, 0, none⟩ = some (.pointer (some ⟨cb, 0, none⟩)) := by
    have e : w.heap.size = w.heap.size := by simp
    rw [hW, ← e, World.cell?_alloc_lt _ _ _ (by simp <;> omega), World.cell?_alloc_lt _ _ _ (by simp <;> omega), World.cell?_alloc_lt _ _ _ (by simp <;> omega), World.cell?_alloc_lt _ _ _ (by simp <;> omega), World.cell?_alloc_mark]; rfl
  have q1 : W.cell? ⟨w.heap.size + 1, 0, none⟩ = some (encStr k) := by
    have e : (w.alloc (.cells #[.pointer (some ⟨cb, 0, none⟩)] 79)).heap.size = w.heap.size + 1 := by simp
    rw [hW, ← e, World.cell?_alloc_lt _ _ _ (by simp <;> omega), World.cell?_alloc_lt _ _ _ (by simp <;> omega), World.cell?_alloc_lt _ _ _ (by simp <;> omega), World.cell?_alloc_mark]; rfl
  have q2 : W.cell? ⟨w.heap.size + 2, 0, none⟩ = some (.int .i64 off) := by
    have e : ((w.alloc (.cells #[.pointer (some ⟨cb, 0, none⟩)] 79)).alloc (.cells #[encStr k] 9)).heap.size = w.heap.size + 2 := by simp
    rw [hW, ← e, World.cell?_alloc_lt _ _ _ (by simp <;> omega), World.cell?_alloc_lt _ _ _ (by simp <;> omega), World.cell?_alloc_mark]; rfl
  have q3 : W.cell? ⟨w.heap.size + 3, 0, none⟩ = some (.int .i64 l) := by
    have e : (((w.alloc (.cells #[.pointer (some ⟨cb, 0, none⟩)] 79)).alloc (.cells #[encStr k] 9)).alloc (.cells #[.int .i64 off] 3)).heap.size = w.heap.size + 3 := by simp
    rw [hW, ← e, World.cell?_alloc_lt _ _ _ (by simp <;> omega), World.cell?_alloc_mark]; rfl
  have q4 : W.heap[w.heap.size + 4]? = some (.cells #[.slice none 0 0] 32 (0, 0)) := by
    have e : ((((w.alloc (.cells #[.pointer (some ⟨cb, 0, none⟩)] 79)).alloc (.cells #[encStr k] 9)).alloc (.cells #[.int .i64 off] 3)).alloc (.cells #[.int .i64 l] 3)).heap.size = w.heap.size + 4 := by simp
    rw [hW, ← e, heap_alloc_new]
  have hcl : cb < w.heap.size := (Array.getElem?_eq_some_iff.1 h.box).1
  have hvl : w.heap.size + 4 < W.heap.size := (Array.getElem?_eq_some_iff.1 q4).1
  have hnS : ∀ x, w.heap.size ≤ x → ¬ S x := fun x hx hS => by have := h.st.lt _ (.inl hS); omega
  have hnD : ∀ x, w.heap.size ≤ x → ¬ D x := fun x hx hS => by have := h.st.lt _ (.inr hS); omega
  have hw0 : w0.heap.size ≤ w.heap.size := h.st.below.size
  have HA := hide (caAgain (E := fun j => j < 19) (by omega) (h.grow hb) hs ht (by omega) 107 #[.pointer (some ⟨w.heap.size, 0, none⟩), .pointer (some ⟨w.heap.size + 1, 0, none⟩), .pointer (some ⟨w.heap.size + 2, 0, none⟩), .pointer (some ⟨w.heap.size + 3, 0, none⟩), .pointer (some ⟨w.heap.size + 4, 0, none⟩)] (enters_of Tryz.func107 (by kernel_rfl) rfl)
    (fun s => s.ask [] (St.S.getF k off l)) (St.err_in (E := fun j => j < 19) (by omega) [] _ (St.get_in (E := fun j => j < 19) (by omega) (by omega) k off l)) (fun x => x = w.heap.size + 4) (fun r W => ∃ v, W.heap[w.heap.size + 4]? = some (.cells #[v] 32 (0, 0)) ∧ Own W w.heap.size v r) (fun _ => True) (fun _ _ => trivial)
    (fun x W1 u ⟨v, hx, hv⟩ => ⟨v, (Below.heap_setCell _ _ _ _ (fun e => by have e2 : w.heap.size + 4 = cb := e; omega)).trans hx, hv.set hcl u⟩)
    (fun S1 D1 s1 a1 n1 x W1 h1 hok h3 h4 hgo ⟨v0, hx, _⟩ => by
      have hz1 := hgo.chg.size
      have hz2 := hb.size
      have hS1 : ¬ S1 (w.heap.size + 4) := fun hy => by
        rcases hgo.s _ hy with hy | hy
        · exact hnS _ (by omega) hy
        · omega
      have hD1 : ¬ D1 (w.heap.size + 4) := fun hy => by
        rcases hgo.d _ hy with hy | hy
        · exact hnD _ (by omega) hy
        · omega
      exact (caGet1_any h3 (box_cell h4 0) p hs (by omega) _ _ _ _ _ k hk off hoff l hl (hgo.cell q0 (hnS _ (Nat.le_refl _)) (by omega)) (hgo.cell q1 (hnS _ (by omega)) (by omega)) (hgo.cell q2 (hnS _ (by omega)) (by omega)) (hgo.cell q3 (hnS _ (by omega)) (by omega)) v0 hx hS1 hD1 (by omega)).mono fun e w' ⟨he, ⟨v, hv1, hv2⟩, hst, hgo2⟩ => ⟨he, ⟨v, hv1, hv2.mono (by omega)⟩, S1, D1, hst, hgo2⟩) (by omega) [] ⟨_, q4, Own.nil _ _⟩ trivial)
  have HW := hide hW
  have HB := hide hb
  clear h hs ht hn hk hoff hl hW hb q0 q1 q2 q3 q4 hcl hvl hnS hnD hw0
  go_enter Tryz.func41, Tryz.ntmps41
  go_wp2_with (first
    | (go_at_call 104; rw [← HW.out]; refine HA.out.mono ?_; rintro e w2 ⟨rfl, ⟨v, hbx, hown⟩, -, S', D', h1, h2⟩; have H1 := hide h1; have H2 := hide h2; have HO := hide hown; have cv := box_cell hbx 0; simp only [List.getElem?_toArray, List.getElem?_cons_zero] at cv; clear h1 h2 hbx hown)
    | fail)
  go_returns
  exact ⟨_, rfl, HO.out, S', D', H1.out, H2.out.ahead HB.out fun k hk => hk.elim .inl fun e => .inr (by omega)⟩

set_option maxRecDepth 100000 in
set_option maxHeartbeats 4000000 in
/-- The closure of List. -/
theorem caList1_any {w0 w : World} {S D : Nat → Prop} {sb cb n : Nat} {s : St.S} (h : StS w0 S D sb s n w) (c0 : w.cell? ⟨cb, 0, none⟩ = some (.pointer (some ⟨sb, 0, none⟩))) (p : Nat → Addr) (hs : Sents w0 p) (hn : n ≤ 1000000) (xc x0 vb : Nat) (k : List UInt8) (hlen : ∀ l, St.ListsS s.objs l → l.length ≤ 1000000)
    (c1 : w.cell? ⟨xc, 0, none⟩ = some (.pointer (some ⟨cb, 0, none⟩))) (c2 : w.cell? ⟨x0, 0, none⟩ = some (encStr k)) (v0 : Value) (hv : w.heap[vb]? = some (.cells #[v0] 35 (0, 0))) (hS : ¬ S vb) (hD : ¬ D vb) (h0 : w0.heap.size ≤ vb) :
    Calls Tryz.prog 109 #[.pointer (some ⟨xc, 0, none⟩), .pointer (some ⟨x0, 0, none⟩), .pointer (some ⟨vb, 0, none⟩)] w fun e w' => e = .returned (errR p (s.list).1.2) ∧ (∃ v, w'.heap[vb]? = some (.cells #[v] 35 (0, 0)) ∧ LsV w.heap.size k (s.list).1.1 v w') ∧ StS w0 S D sb (s.list).2 (n + 1) w' ∧ CaGo S D (fun k => k = vb) S D w w' := by
  have hvl := (Array.getElem?_eq_some_iff.1 hv).1
  have HP := hide (fun (W : World) (hW : Below w.heap.size w W) => StS.list (h.grow hW) p hs hn k hlen)
  have HC := hide (fun (W : World) (hW : Below w.heap.size w W) (w2 : World) (hg : Chg S W w2) => ((hg.block vb (Nat.lt_of_lt_of_le hvl hW.size) hS).trans ((hW.block vb hvl).trans hv) : w2.heap[vb]? = some (.cells #[v0] 35 (0, 0))))
  have HV := hide (fun (W : World) (hW : Below w.heap.size w W) (w2 : World) (h2 : StS w0 S D sb (s.list).2 (n + 1) w2) (hg : Chg S W w2) (v : Value) => h2.boxedC (i := 0) ((Chg.of_below hW).then hg) hv hS hD h0 v)
  have HVL := hide hvl
  clear h hs hn hlen hv hS hD h0 hvl
  go_enter Tryz.func109, Tryz.ntmps109
  go_wp2_with fail
  go_region_with (go_at_call 17; refine (HP.out _ (below_drewN (Below.refl _ _) _)).mono ?_; rintro e w2 ⟨v, rfl, hown, h2, hg⟩; obtain ⟨A0, n0, k0, rfl⟩ := hown.slice; have H2 := hide h2; have HG := hide hg; have HO := hide hown; have hx := HC.out _ (below_drewN (Below.refl _ _) _) w2 hg; have cv := box_cell hx 0; have fv := box_free hx 0; clear h2 hg hx hown)
  all_goals
    go_wp2_with fail
    refine bodyPost_ret (by simp [results, Tryz.results109, go_sem]; try rfl) rfl ?_
    obtain ⟨q1, q2, q3⟩ := HV.out _ (below_drewN (Below.refl _ _) _) w2 H2.out HG.out (.slice A0 n0 k0)
    exact ⟨rfl, ⟨_, q1, (HO.out.mono (by simp)).set HVL.out _⟩, q2, q3⟩

/-- What a client's List makes of a store. -/
abbrev St.clist (t : Nat) (s : St.S) : St.Ag (St.S × Option St.S) := (St.again (St.askOf fun s => s.ask none St.S.listF) t (s, none))
set_option maxRecDepth 100000 in
set_option maxHeartbeats 1000000 in
theorem CaS.list {w0 w : World} {S D : Nat → Prop} {sb cb t n : Nat} {a : Int} {s : St.S} (h : CaS w0 S D sb cb t a s n w) (p : Nat → Addr) (hs : Sents w0 p) (ht : 1 ≤ t ∧ t ≤ 8) (hn : n ≤ 900000) (k : List UInt8) (Ok : St.S → Prop) (hOk : ∀ s, Ok s → Ok (s.ask none St.S.listF).2) (hOs : ∀ s, Ok s → ∀ l, St.ListsS s.objs l → l.length ≤ 1000000) (h0 : Ok s) :
    Calls Tryz.prog 45 #[.pointer (some ⟨cb, 0, none⟩), encStr k] w fun e w' => ∃ v, e = .returned (.tuple #[v, errR p (St.again (St.askOf fun s => s.ask none St.S.listF) t (s, none)).r]) ∧ LsV w.heap.size k (St.again (St.askOf fun s => s.ask none St.S.listF) t (s, none)).st.2 v w' ∧ ∃ S' D', CaS w0 S' D' sb cb t (a + (St.again (St.askOf fun s => s.ask none St.S.listF) t (s, none)).k) (St.again (St.askOf fun s => s.ask none St.S.listF) t (s, none)).st.1 (n + t) w' ∧ CaGo S D (fun k => k = cb) S' D' w w' := by
  obtain ⟨W, hW⟩ : ∃ W, W = ((w.alloc (.cells #[.pointer (some ⟨cb, 0, none⟩)] 79)).alloc (.cells #[encStr k] 9)).alloc (.cells #[.slice none 0 0] 35) := ⟨_, rfl⟩
  have hb : Below w.heap.size w W := hW ▸ balloc (balloc (balloc (Below.refl _ _) _) _) _
  have q0 : W.cell? ⟨w.heap.size, 0, none⟩ = some (.pointer (some ⟨cb, 0, none⟩)) := by
    have e : w.heap.size = w.heap.size := by simp
    rw [hW, ← e, World.cell?_alloc_lt _ _ _ (by simp <;> omega), World.cell?_alloc_lt _ _ _ (by simp <;> omega), World.cell?_alloc_mark]; rfl
  have q1 : W.cell? ⟨w.heap.size + 1, 0, none⟩ = some (encStr k) := by
    have e : (w.alloc (.cells #[.pointer (some ⟨cb, 0, none⟩)] 79)).heap.size = w.heap.size + 1 := by simp
    rw [hW, ← e, World.cell?_alloc_lt _ _ _ (by simp <;> omega), World.cell?_alloc_mark]; rfl
  have q2 : W.heap[w.heap.size + 2]? = some (.cells #[.slice none 0 0] 35 (0, 0)) := by
    have e : ((w.alloc (.cells #[.pointer (some ⟨cb, 0, none⟩)] 79)).alloc (.cells #[encStr k] 9)).heap.size = w.heap.size + 2 := by simp
    rw [hW, ← e, heap_alloc_new]
  have hcl : cb < w.heap.size := (Array.getElem?_eq_some_iff.1 h.box).1
  have hvl : w.heap.size + 2 < W.heap.size := (Array.getElem?_eq_some_iff.1 q2).1
  have hnS : ∀ x, w.heap.size ≤ x → ¬ S x := fun x hx hS => by have := h.st.lt _ (.inl hS); omega
  have hnD : ∀ x, w.heap.size ≤ x → ¬ D x := fun x hx hS => by have := h.st.lt _ (.inr hS); omega
  have hw0 : w0.heap.size ≤ w.heap.size := h.st.below.size
  have HA := hide (caAgain (E := fun j => j < 19) (by omega) (h.grow hb) hs ht (by omega) 109 #[.pointer (some ⟨w.heap.size, 0, none⟩), .pointer (some ⟨w.heap.size + 1, 0, none⟩), .pointer (some ⟨w.heap.size + 2, 0, none⟩)] (enters_of Tryz.func109 (by kernel_rfl) rfl)
    (fun s => s.ask none St.S.listF) (St.err_in (E := fun j => j < 19) (by omega) none _ (St.list_in (E := fun j => j < 19))) (fun x => x = w.heap.size + 2) (fun r W => ∃ v, W.heap[w.heap.size + 2]? = some (.cells #[v] 35 (0, 0)) ∧ LsV w.heap.size k r v W) Ok hOk
    (fun x W1 u ⟨v, hx, hv⟩ => ⟨v, (Below.heap_setCell _ _ _ _ (fun e => by have e2 : w.heap.size + 2 = cb := e; omega)).trans hx, hv.set hcl u⟩)
    (fun S1 D1 s1 a1 n1 x W1 h1 hok h3 h4 hgo ⟨v0, hx, _⟩ => by
      have hz1 := hgo.chg.size
      have hz2 := hb.size
      have hS1 : ¬ S1 (w.heap.size + 2) := fun hy => by
        rcases hgo.s _ hy with hy | hy
        · exact hnS _ (by omega) hy
        · omega
      have hD1 : ¬ D1 (w.heap.size + 2) := fun hy => by
        rcases hgo.d _ hy with hy | hy
        · exact hnD _ (by omega) hy
        · omega
      exact (caList1_any h3 (box_cell h4 0) p hs (by omega) _ _ _ k (hOs _ hok) (hgo.cell q0 (hnS _ (Nat.le_refl _)) (by omega)) (hgo.cell q1 (hnS _ (by omega)) (by omega)) v0 hx hS1 hD1 (by omega)).mono fun e w' ⟨he, ⟨v, hv1, hv2⟩, hst, hgo2⟩ => ⟨he, ⟨v, hv1, hv2.mono (by omega)⟩, S1, D1, hst, hgo2⟩) (by omega) none ⟨_, q2, rfl⟩ h0)
  have HW := hide hW
  have HB := hide hb
  clear h hs ht hn hOk hOs h0 hW hb q0 q1 q2 hcl hvl hnS hnD hw0
  go_enter Tryz.func45, Tryz.ntmps45
  go_wp2_with (first
    | (go_at_call 104; rw [← HW.out]; refine HA.out.mono ?_; rintro e w2 ⟨rfl, ⟨v, hbx, hown⟩, -, S', D', h1, h2⟩; have H1 := hide h1; have H2 := hide h2; have HO := hide hown; have cv := box_cell hbx 0; simp only [List.getElem?_toArray, List.getElem?_cons_zero] at cv; clear h1 h2 hbx hown)
    | fail)
  go_returns
  exact ⟨_, rfl, HO.out, S', D', H1.out, H2.out.ahead HB.out fun k hk => hk.elim .inl fun e => .inr (by omega)⟩
end Go.Proofs.YtlflijhnlcdakaaGreatDoor
