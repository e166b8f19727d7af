/-
  A segment made of batches, and its disk, plainly; the batches by numbers follow each other.
  Package seg's statements: made; the chapter's examples.
  Package seg's statements: a Read of a segment made of batches; the chapter's examples.
-/
import Derived.Test.YtfdppggdgdnnaaaGreatDoorZ17
import Derived.Test.YtfdppggdgdnnaaaGreatDoorZ16
import Derived.Test.YtfdppggdgdnnaaaGreatDoorZ18
import Derived.Test.YtfdppggdgdnnaaaGreatDoorZ7
import Derived.Test.YtfdppggdgdnnaaaGreatDoorZ15
namespace Go.Proofs.YtfdppggdgdnnaaaGreatDoor
namespace Rc
theorem eT_le (l : List UInt8) (K : Nat) (h : l.length ≤ K) (hK : K ≤ 512) : (eT l).length ≤ K + 10 := by
  have := eT_len l (by omega)
  omega
theorem recB_le (last : Int) (r : Rec) (K V : Nat) (hK : K ≤ 64) (hV : V ≤ 512) (h : -1099511627776 ≤ r.t ∧ r.t ≤ 1099511627776 ∧ r.k.length ≤ K ∧ r.v.length ≤ V) (h2 : -1099511627776 ≤ last ∧ last ≤ 1099511627776) : (recB last r).length ≤ 30 + K + V := by
  unfold recB
  rw [List.length_append, List.length_append]
  have h1 : (Vi.put (Vi.zz (r.t - last))).length ≤ 10 := Vi.size_le10 (Vi.zz_lt _ (by omega) (by omega))
  have := eT_le r.k K h.2.2.1 (by omega)
  have := eT_le r.v V h.2.2.2 hV
  omega
theorem recsB_le (K V : Nat) (hK : K ≤ 64) (hV : V ≤ 512) (rs : List Rec) : ∀ last, (∀ r ∈ rs, -1099511627776 ≤ r.t ∧ r.t ≤ 1099511627776 ∧ r.k.length ≤ K ∧ r.v.length ≤ V) → -1099511627776 ≤ last ∧ last ≤ 1099511627776 → (recsB last rs).length ≤ (30 + K + V) * rs.length := by
  induction rs with
  | nil => intro last _ _; simp [recsB]
  | cons a rs ih =>
    intro last h h2
    have ha := h a List.mem_cons_self
    have h3 := recB_le last a K V hK hV ha h2
    have h4 := ih a.t (fun r hr => h r (List.mem_cons_of_mem _ hr)) ⟨ha.1, ha.2.1⟩
    simp only [recsB, List.length_append, List.length_cons, Nat.mul_add, Nat.mul_one]
    omega
theorem bytes_le (b : Bat) (g : Good b) (K V : Nat) (hK : K ≤ 64) (hV : V ≤ 512) (h : ∀ r ∈ b.recs, r.k.length ≤ K ∧ r.v.length ≤ V) : (bytes b).length ≤ 32 + (30 + K + V) * b.recs.length := by
  have h1 := recsB_le K V hK hV b.recs (Rc.t0 b) (fun r hr => ⟨(g.recs r hr).1, (g.recs r hr).2.1, h r hr⟩) g.t0
  have h2 := g.t0
  have h3 : (Vi.put (Vi.zz (Rc.t0 b))).length ≤ 10 := Vi.size_le10 (Vi.zz_lt _ (by omega) (by omega))
  have h4 := bytes_len b
  have h5 : (body b).length = (hd b).length + (Vi.put (Vi.zz (Rc.t0 b))).length + (recsB (Rc.t0 b) b.recs).length := by unfold body; rw [List.length_append, List.length_append]
  rw [hd_len] at h5
  omega
end Rc
namespace Rw
theorem bt_small (at_ : Int) (i ev : Nat) (z : Int) (g : Rc.Good (bt at_ i ev z)) : (Rc.bytes (bt at_ i ev z)).length ≤ 300 := by
  have h := Rc.bytes_le (bt at_ i ev z) g 1 8 (by omega) (by omega) (fun r hr => by
    obtain ⟨k, hk, rfl⟩ := List.mem_map.1 hr
    have := kv_lt z k
    exact ⟨by simp [rc], by simp [rc]; omega⟩)
  have hl : (bt at_ i ev z).recs.length = many z := by simp [bt]
  have hm := many_bd z
  rw [hl] at h
  generalize many z = m at *
  omega
theorem go_small (zs : List Int) : ∀ (at_ : Int) (i ev : Nat), (∀ b ∈ go at_ i ev zs, Rc.Good b) → ∀ b ∈ go at_ i ev zs, (Rc.bytes b).length ≤ 300 := by
  induction zs with
  | nil => intro at_ i ev _ b hb; simp [go] at hb
  | cons z zs ih =>
    intro at_ i ev hg b hb
    rcases List.mem_cons.1 hb with rfl | hb
    · exact bt_small _ _ _ _ (hg _ List.mem_cons_self)
    · exact ih _ _ _ (fun x hx => hg x (List.mem_cons_of_mem _ hx)) b hb
/-- They follow each other. -/
theorem go_chain (zs : List Int) : ∀ (at_ : Int) (i ev : Nat) (s : Sg.St), (Sg.last s.edges).off = at_ → (Sg.last s.edges).ep ≤ 1 + ((i / ev : Nat) : Int) → Sg.Chain s (go at_ i ev zs) := by
  induction zs with
  | nil => intro at_ i ev s _ _; exact trivial
  | cons z zs ih =>
    intro at_ i ev s h1 h2
    refine ⟨?_, ih _ _ _ _ ?_ ?_⟩
    · unfold Sg.follows
      rw [h1]
      have e1 : (bt at_ i ev z).base = at_ := rfl
      have e2 : (bt at_ i ev z).epoch = 1 + ((i / ev : Nat) : Int) := rfl
      rw [e1, e2, decide_eq_true h2]
      simp
    · rw [Sg.add_last]
      show at_ + ((bt at_ i ev z).recs.length : Int) = _
      simp [bt]
    · rw [Sg.add_last]
      show 1 + ((i / ev : Nat) : Int) ≤ _
      have h3 : i / ev ≤ (i + 1) / ev := Nat.div_le_div_right (by omega)
      generalize i / ev = x at *
      generalize (i + 1) / ev = y at *
      omega
end Rw
theorem flat_len_le {α β : Type} (f : α → List β) (N : Nat) : ∀ l : List α, (∀ b ∈ l, (f b).length ≤ N) → (l.flatMap f).length ≤ N * l.length := by
  intro l
  induction l with
  | nil => intro _; simp
  | cons a l ih =>
    intro h
    have h1 := h a List.mem_cons_self
    have h2 := ih fun b hb => h b (List.mem_cons_of_mem _ hb)
    rw [List.flatMap_cons, List.length_append, List.length_cons, Nat.mul_add, Nat.mul_one]
    omega

namespace Dk
/-- A disk with its power, by its names, which are kept. -/
def Has (d : St) (room used : Int) (names : Dir) : Prop := ∃ calls, V d room used calls names names []
section
variable {d : St} {room used : Int} {names : Dir}
theorem Has.new (room : Int) : Has (St.new room) room 0 (fun _ => none) := ⟨_, V.new room⟩
theorem Has.find (h : Has d room used names) (k : Nm) (i : Nat) (hn : names k = some i) : d.find k = (none, some i) := by
  obtain ⟨_, v⟩ := h; exact v.find k i hn
theorem Has.len (h : Has d room used names) (k : Nm) (i : Nat) (hn : names k = some i) : d.lenOf k = ((d.files i).bytes.length : Int) := by
  obtain ⟨_, v⟩ := h; exact (v.len k i hn).1
theorem Has.read (h : Has d room used names) (k : Nm) (i n : Nat) (hn : names k = some i) (hr : (d.files i).bytes.length = n) : d.readOf k 0 n = (none, (d.files i).bytes) := by
  obtain ⟨_, v⟩ := h
  rw [v.read k i n hn (by omega), ← hr, List.take_length]
theorem Has.append (h : Has d room used names) (k : Nm) (i : Nat) (b : Nm) (hn : names k = some i) (hr : (b.length : Int) ≤ room - used) :
    ∃ d', d.append k b = (none, d') ∧ Has d' room (used + b.length) names ∧ (d'.files i).bytes = (d.files i).bytes ++ b ∧ ∀ x, x ≠ i → d'.files x = d.files x := by
  obtain ⟨_, v⟩ := h
  obtain ⟨d', e, v', f, g⟩ := v.append k i b hn hr
  exact ⟨d', e, ⟨_, v'⟩, by rw [f], g⟩
theorem Has.full (h : Has d room used names) (k : Nm) (i : Nat) (b : Nm) (hn : names k = some i) (hr : room - used < (b.length : Int)) : d.append k b = (some 8, d) := by
  obtain ⟨_, v⟩ := h; exact v.append_full k i b hn hr
theorem Has.sync (h : Has d room used names) (k : Nm) (i : Nat) (hn : names k = some i) :
    ∃ d', d.sync k = (none, d') ∧ Has d' room used names ∧ (d'.files i).bytes = (d.files i).bytes ∧ ∀ x, x ≠ i → d'.files x = d.files x := by
  obtain ⟨_, v⟩ := h
  obtain ⟨d', e, v', f, g⟩ := v.sync k i hn
  exact ⟨d', e, ⟨_, v'⟩, by rw [f], g⟩
/-- The three calls of a segment that begins. -/
theorem Has.begin_ (h : Has d room used names) (k : Nm) (hv : valid k = true) (hn : names k = none) :
    ∃ d1 d2 d3 : Nat → St, (∀ x, d.create k x = (none, d1 x)) ∧ (∀ x, (d1 x).sync k = (none, d2 x)) ∧ (∀ x, (d2 x).syncDir = (none, d3 x)) ∧
      ∀ x, Has (d3 x) room used (upd names k (some x)) ∧ ((d3 x).files x).bytes = [] ∧ ∀ y, y ≠ x → (d3 x).files y = d.files y := by
  obtain ⟨calls, v⟩ := h
  have hup : ∀ x, upd names k (some x) k = some x := fun x => upd_same _ _ _
  have key : ∀ x, ∃ t : St × St × St, d.create k x = (none, t.1) ∧ t.1.sync k = (none, t.2.1) ∧ t.2.1.syncDir = (none, t.2.2) ∧ Has t.2.2 room used (upd names k (some x)) ∧ (t.2.2.files x).bytes = [] ∧ ∀ y, y ≠ x → t.2.2.files y = d.files y := fun x => by
    obtain ⟨t1, e1, v1, f1, g1⟩ := v.create k x hv hn
    obtain ⟨t2, e2, v2, f2, g2⟩ := v1.sync k x (hup x)
    obtain ⟨t3, e3, v3, f3⟩ := v2.syncDir
    have hd : ons ([] ++ [⟨[], k, some x⟩]) names = upd names k (some x) := by rw [List.nil_append]; exact on_to k (some x) names (valid_ne hv)
    rw [hd] at v3
    exact ⟨(t1, t2, t3), e1, e2, e3, ⟨_, v3⟩, by rw [f3, f2, f1], fun y hy => by rw [f3, g2 y hy, g1 y hy]⟩
  exact ⟨fun x => (key x).choose.1, fun x => (key x).choose.2.1, fun x => (key x).choose.2.2, fun x => (key x).choose_spec.1, fun x => (key x).choose_spec.2.1, fun x => (key x).choose_spec.2.2.1, fun x => (key x).choose_spec.2.2.2⟩
theorem Has.cut (h : Has d room used names) (k : Nm) (i n : Nat) (hn : names k = some i) (hr : n ≤ (d.files i).bytes.length) :
    ∃ d' used', d.cut k n = (none, d') ∧ Has d' room used' names ∧ used' ≤ used ∧ d'.files i = (d.files i).keep n ∧ ∀ x, x ≠ i → d'.files x = d.files x := by
  obtain ⟨_, v⟩ := h
  obtain ⟨d', e, v', f, g⟩ := v.cut k i n hn hr
  exact ⟨d', _, e, ⟨_, v'⟩, by omega, f, g⟩
theorem Has.synced (h : Has d room used names) (k : Nm) (i : Nat) (hn : names k = some i) : d.syncedOf k = ((d.files i).synced : Int) := by
  obtain ⟨_, v⟩ := h; exact (v.len k i hn).2
theorem Has.syncF (h : Has d room used names) (k : Nm) (i : Nat) (hn : names k = some i) :
    ∃ d', d.sync k = (none, d') ∧ Has d' room used names ∧ d'.files i = { d.files i with synced := (d.files i).bytes.length } ∧ ∀ x, x ≠ i → d'.files x = d.files x := by
  obtain ⟨_, v⟩ := h
  obtain ⟨d', e, v', f, g⟩ := v.sync k i hn
  exact ⟨d', e, ⟨_, v'⟩, f, g⟩
theorem Has.appendF (h : Has d room used names) (k : Nm) (i : Nat) (b : Nm) (hn : names k = some i) (hr : (b.length : Int) ≤ room - used) :
    ∃ d', d.append k b = (none, d') ∧ Has d' room (used + b.length) names ∧ d'.files i = { d.files i with bytes := (d.files i).bytes ++ b } ∧ ∀ x, x ≠ i → d'.files x = d.files x := by
  obtain ⟨_, v⟩ := h
  obtain ⟨d', e, v', f, g⟩ := v.append k i b hn hr
  exact ⟨d', e, ⟨_, v'⟩, f, g⟩
/-- A crash: all names stay; of each file there is what was synced, and some more. -/
theorem Has.crash (h : Has d room used names) (picks : List Int) (ys : List Nat) (hy : Order (d.settle (pick picks 0 d.since.length)) (d.settle (pick picks 0 d.since.length)).dur ys) (hs : ∀ k ∈ ys, (d.files k).synced ≤ (d.files k).bytes.length) :
    ∃ used', Has (d.crash picks ys) room used' names ∧ ∀ k x, names k = some x → ∃ j, (d.crash picks ys).files x = (d.files x).keep ((d.files x).synced + pick picks j ((d.files x).bytes.length - (d.files x).synced)) := by
  obtain ⟨_, v⟩ := h
  obtain ⟨m, hm, -, v', hf⟩ := v.crash picks ys hy hs
  have e : ([] : List Mv).take m = [] := List.take_nil
  rw [e] at v' hf
  exact ⟨_, ⟨_, v'⟩, fun k x hx => by obtain ⟨j, -, -, h⟩ := hf k x hx; exact ⟨j, h⟩⟩
end
end Dk
/-- A segment of these batches, and its disk. -/
structure Md (d : Dk.St) (s : Sg.St) (room used : Int) (names : Dk.Dir) (s0 : Sg.St) (x : Nat) (bs : List Rc.Bat) : Prop where
  has : Dk.Has d room used names
  one : s0.edges.length = 1
  zero : (Sg.last s0.edges).pos = 0
  nm : names s0.file = some x
  bytes : (d.files x).bytes = bs.flatMap Rc.bytes
  seg : s = Sg.adds s0 bs
  chain : Sg.Chain s0 bs
  good : ∀ b ∈ bs, Rc.Good b
section
variable {d : Dk.St} {s s0 : Sg.St} {room used : Int} {names : Dk.Dir} {x : Nat} {bs : List Rc.Bat}
theorem Md.file (h : Md d s room used names s0 x bs) : s.file = s0.file := by rw [h.seg]; exact (Sg.adds_file bs s0).1
theorem Md.len (h : Md d s room used names s0 x bs) : s.edges.length = bs.length + 1 := by rw [h.seg, Sg.adds_len, h.one]; omega
theorem Md.pos (h : Md d s room used names s0 x bs) : (Sg.last s.edges).pos = ((bs.flatMap Rc.bytes).length : Int) := by rw [h.seg, Sg.adds_pos, h.zero]; omega
theorem Md.add (h : Md d s room used names s0 x bs) (b : Rc.Bat) (hg : Rc.Good b) (hf : Sg.follows s.edges b = true) (hr : ((Rc.bytes b).length : Int) ≤ room - used) :
    ∃ d', sgApp d s b = (none, d', s.add b (Rc.bytes b).length) ∧ Md d' (s.add b (Rc.bytes b).length) room (used + (Rc.bytes b).length) names s0 x (bs ++ [b]) := by
  obtain ⟨d', e, hh, hb, -⟩ := h.has.append s.file x (Rc.bytes b) (by rw [h.file]; exact h.nm) hr
  refine ⟨d', ?_, hh, h.one, h.zero, h.nm, ?_, ?_, ?_, fun y hy => ?_⟩
  · unfold sgApp
    rw [if_neg (by rw [(Rc.bad_good b).2 hg]; simp), if_neg (by rw [hf]; simp), e, if_pos rfl]
  · rw [hb, h.bytes, List.flatMap_append]; simp
  · rw [h.seg, Sg.adds_append]; rfl
  · rw [Sg.Chain.append]
    exact ⟨h.chain, by rw [← h.seg]; exact hf, trivial⟩
  · rcases List.mem_append.1 hy with hy | hy
    · exact h.good y hy
    · rw [List.mem_singleton] at hy; subst hy; exact hg
theorem Md.full (h : Md d s room used names s0 x bs) (b : Rc.Bat) (hg : Rc.Good b) (hf : Sg.follows s.edges b = true) (hr : room - used < ((Rc.bytes b).length : Int)) : sgApp d s b = (some 8, d, s) := by
  have e := h.has.full s.file x (Rc.bytes b) (by rw [h.file]; exact h.nm) hr
  unfold sgApp
  rw [if_neg (by rw [(Rc.bad_good b).2 hg]; simp), if_neg (by rw [hf]; simp), e]
  simp
end
/-- The next of a chain follows. -/
theorem chain_next {s0 : Sg.St} {cs : List Rc.Bat} (h : Sg.Chain s0 cs) (k : Nat) (hk : k < cs.length) : Sg.follows (Sg.adds s0 (cs.take k)).edges cs[k] = true := by
  have e : cs = cs.take k ++ cs.drop k := (List.take_append_drop _ _).symm
  rw [e] at h
  have h2 := (Sg.Chain.append.1 h).2
  rw [List.drop_eq_getElem_cons hk] at h2
  exact h2.1
theorem seg_valid {base : Int} (h : 0 ≤ base ∧ base ≤ 1099511627776) : Dk.valid (Nm.seg base) = true := by
  have e : Nm.seg base = Nm.segN base.toNat := by unfold Nm.seg; rw [if_pos (by simp [Nm.right]; omega)]
  have hall : (Nm.segN base.toNat).all Dk.okByte = true := by
    rw [List.all_eq_true]
    intro c hc
    unfold Nm.segN at hc
    rcases List.mem_append.1 hc with hc | hc
    · simp only [Nm.log, List.mem_cons, List.not_mem_nil, or_false] at hc
      rcases hc with rfl | rfl | rfl | rfl <;> decide
    · have hd := Nm.dgs_digit 13 _ c hc
      unfold Nm.digit at hd
      have h1 : (48 : UInt8) ≤ c := UInt8.le_iff_toNat_le.2 hd.1
      have h2 : c ≤ (57 : UInt8) := UInt8.le_iff_toNat_le.2 hd.2
      simp [Dk.okByte, h1, h2]
  rw [e]
  unfold Dk.valid
  rw [hall, Nm.segN_length]
  rfl
end Go.Proofs.YtfdppggdgdnnaaaGreatDoor

namespace Go.Proofs.YtfdppggdgdnnaaaGreatDoor
open Go.RowKit Go.Maps Go.Sort

theorem Bats.at_ {w : World} {A : Option Addr} {cs : List Rc.Bat} (h : Bats w A cs) (k : Nat) (hk : k < cs.length) : ∃ b off, A = some ⟨b, off, none⟩ ∧ b < w.heap.size ∧ ∃ Ax cx, w.cell? ⟨b, off + k * 3, none⟩ = some (.int .i64 cs[k].base) ∧ w.cell? ⟨b, off + k * 3 + 1, none⟩ = some (.int .i64 cs[k].epoch) ∧ w.cell? ⟨b, off + k * 3 + 2, none⟩ = some (.slice Ax cs[k].recs.length cx) ∧ IsBat w Ax cx cs[k] := by
  rcases h with h | ⟨b, off, e, hb, hc⟩
  · rw [h] at hk; simp at hk
  · obtain ⟨Ax, cx, h0, h1, h2, h3⟩ := (hc k hk).ex
    exact ⟨b, off, e, hb, Ax, cx, h0, h1, h2, h3⟩
theorem SgW.cellW {w0 w : World} {S T : Nat → Prop} {n Bd X : Nat} {d : Dk.St} {s : Sg.St} (h : SgW w0 S T n Bd d X s w) {W : World} (hc : Chg (fun k => S k ∨ T k) w W) : Below w0.heap.size w0 W :=
  h.below.trans (hc.below h.below.size fun k hk => by
    rcases hk with hk | hk
    · exact (h.disk.lo k hk).1
    · exact (h.lo k hk).1)

set_option maxRecDepth 100000 in
set_option maxHeartbeats 2000000 in
theorem made_any (base every : Int) (A : Option Addr) (cap n : Nat) (cs : List Rc.Bat) (w : World) (p : Nat → Addr) (hs : SentsG w p) (ht : Tabs w) (hpt : PowTab w) (hn : cs.length = n) (hn2 : n ≤ 20) (hb : Bats w A cs) (hg : ∀ b ∈ cs, Rc.Good b) (hl : ∀ b ∈ cs, (Rc.bytes b).length ≤ 300) (h0 : 0 ≤ base ∧ base ≤ 1099511627776) (h1 : 1 ≤ every ∧ every ≤ 1048576) (hc : Sg.Chain (Sg.begin (Nm.seg base) base every) cs) :
    Calls Tryz.prog 13 #[.int .i64 base, .slice A n cap, .int .i64 every] w fun e w' => ∃ Bd X S T d s x, e = .returned (.tuple #[.pointer (some ⟨Bd, 0, none⟩), .pointer (some ⟨X, 0, none⟩)]) ∧ SgW w S T (n + 3) Bd d X s w' ∧ Md d s 1048576 ((cs.flatMap Rc.bytes).length : Nat) (Dk.upd (fun _ => none) (Nm.seg base) (some x)) (Sg.begin (Nm.seg base) base every) x cs := by
  obtain ⟨d1, d2, d3, e1, e2, e3, hd⟩ := (Dk.Has.new 1048576).begin_ (Nm.seg base) (seg_valid h0) rfl
  have HNW := hide (new_sessS 1048576 w w (Below.refl _ _) (by omega) (by omega))
  have HCR := hide (fun (W : World) (S : Nat → Prop) (Bd : Nat) (h : SessS S w 0 Bd (Dk.St.new 1048576) W) => sgCreate_good w W S 0 Bd _ base every p h hs (by omega) h0 h1 hpt d1 d2 d3 e1 e2 e3)
  have HMD := hide (fun x => (show Md (d3 x) (Sg.begin (Nm.seg base) base every) 1048576 (0 : Nat) (Dk.upd (fun _ => none) (Nm.seg base) (some x)) (Sg.begin (Nm.seg base) base every) x [] from ⟨(hd x).1, rfl, rfl, Dk.upd_same _ _ _, (hd x).2.1, rfl, trivial, fun b hb => by cases hb⟩))
  have HS := hide hs
  have HT := hide ht
  have HB := hide hb
  have HG := hide hg
  have HL := hide hl
  have HC := hide hc
  have HN := hide hn
  clear hs ht hpt hb hg hl hc hn e1 e2 e3 hd d1 d2
  generalize Sg.begin (Nm.seg base) base every = s0 at *
  generalize Nm.seg base = f at *
  go_enter Tryz.func13, Tryz.ntmps13
  go_wp2_with (first
    | (go_at_call 41; refine HNW.out.mono ?_; rintro e w1 ⟨Bd, rfl, hh1, -⟩; have H1 := hide hh1; clear hh1 HNW)
    | (go_at_call 35; refine (HCR.out w1 _ Bd H1.out).mono ?_; rintro e w2 ⟨X, x, S2, T2, -, rfl, hh2, -⟩; have H2 := hide hh2; have HM2 := hide (HMD.out x); clear hh2 HCR HMD H1)
    | fail)
  go_loopw [12] (fun i wr => ∃ (k : Nat) (S T : Nat → Prop) (d : Dk.St) (s : Sg.St), k ≤ n ∧ i = .int .i64 k ∧ SgW w S T (k + 3) Bd d X s wr ∧ Md d s 1048576 (((cs.take k).flatMap Rc.bytes).length : Nat) (Dk.upd (fun _ => none) f (some x)) s0 x (cs.take k)) (fun i _ => n - (intOf i).toNat)
  case atStart => exact ⟨0, _, _, _, _, Nat.zero_le _, rfl, H2.out, HM2.out⟩
  case round =>
    obtain ⟨k, S, T, d, s, hk, rfl, hw, hm⟩ := hrel
    have HW := hide hw
    have HM := hide hm
    clear hw hm H2 HM2
    by_cases hlt : k < n
    · have hkl : k < cs.length := by rw [HN.out]; exact hlt
      obtain ⟨bb, off, rfl, hbl, Ax, cx, q0, q1, q2, hib⟩ := HB.out.at_ k hkl
      have k0 := (HW.out.below.cell (p := ⟨bb, off + k * 3, none⟩) hbl).trans q0
      have k1 := (HW.out.below.cell (p := ⟨bb, off + k * 3 + 1, none⟩) hbl).trans q1
      have k2 := (HW.out.below.cell (p := ⟨bb, off + k * 3 + 2, none⟩) hbl).trans q2
      have hgk := HG.out cs[k] (List.getElem_mem hkl)
      have hlk := HL.out cs[k] (List.getElem_mem hkl)
      have hfk := chain_next HC.out k hkl
      rw [← HM.out.seg] at hfk
      have htk : ∀ b ∈ cs.take k, (Rc.bytes b).length ≤ 300 := fun b hb => HL.out b (List.mem_of_mem_take hb)
      have hfl := flat_len_le Rc.bytes 300 (cs.take k) htk
      have htl : (cs.take k).length = k := by rw [List.length_take]; omega
      rw [htl] at hfl
      obtain ⟨d', he, hm'⟩ := HM.out.add cs[k] hgk hfk (by omega)
      have HAP := hide (sgAppend_any w wr S T (k + 3) Bd X d s p cs[k] Ax cx cs[k].recs.length HW.out HS.out HT.out (by omega) (by rw [HM.out.len, htl]; omega) (by rw [HM.out.pos]; omega) (fun W hcW => hib.below (HW.out.cellW hcW) (Nat.le_refl _)) rfl (fun _ => by omega))
      rw [he] at HAP
      simp only at HAP
      have HTK : Hid (cs.take (k + 1) = cs.take k ++ [cs[k]]) := hide (List.take_succ_eq_append_getElem hkl)
      have HM' : Hid (Md d' (s.add cs[k] (Rc.bytes cs[k]).length) 1048576 (((cs.take (k + 1)).flatMap Rc.bytes).length : Nat) (Dk.upd (fun _ => none) f (some x)) s0 x (cs.take (k + 1))) := hide (by
        rw [HTK.out, List.flatMap_append, List.length_append]
        have e : (((cs.take k).flatMap Rc.bytes).length + (List.flatMap Rc.bytes [cs[k]]).length : Nat) = (((cs.take k).flatMap Rc.bytes).length : Int) + ((Rc.bytes cs[k]).length : Int) := by simp
        rw [e]
        exact hm')
      clear q0 q1 q2 hib hgk hlk hfk htk hfl htl hm' he HM
      generalize s.add cs[k] (Rc.bytes cs[k]).length = s' at *
      generalize cs[k] = b at *
      unfold batV at HAP
      have dn : decide (k < n) = true := decide_eq_true hlt
      go_wp2_with (first
        | (go_at_call 34; refine HAP.out.mono ?_; rintro e w4 ⟨rfl, S4, T4, hh4, -⟩; have H4 := hide hh4; clear hh4 HAP; unfold errR)
        | fail)
      go_roundw
      case rel => exact ⟨k + 1, S4, T4, d', s', by omega, by go_num, H4.out, HM'.out⟩
      case measure => simp [intOf]; omega
    · obtain rfl : k = n := by omega
      have ht : cs.take k = cs := List.take_of_length_le (by rw [HN.out]; exact Nat.le_refl _)
      rw [ht] at HM
      go_wp2_with fail
      go_ret2
      exact ⟨Bd, X, S, T, d, s, x, rfl, HW.out, HM.out⟩
end Go.Proofs.YtfdppggdgdnnaaaGreatDoor

namespace Go.Proofs.YtfdppggdgdnnaaaGreatDoor
open Go.RowKit Go.Maps Go.Sort

theorem good_cut {b : Rc.Bat} (g : Rc.Good b) (o : Int) (q : Nat) (hq : q < b.recs.length) (ho : o = b.base + q) : Rc.Good (cutB b o q) := by
  have hl : (cutB b o q).recs.length = b.recs.length - q := by simp [cutB]
  have g1 := g.n1
  have g2 := g.base0
  have g3 := g.base1
  refine ⟨by omega, by omega, ?_, ?_, g.ep0, g.ep1, fun r hr => g.recs r (List.mem_of_mem_drop hr)⟩
  · show 0 ≤ o; omega
  · show o + ((cutB b o q).recs.length : Int) ≤ _; omega
theorem bytes_most (b : Rc.Bat) (g : Rc.Good b) : (Rc.bytes b).length ≤ 100000 := by
  have h := Rc.bytes_le b g 64 512 (by omega) (by omega) fun r hr => ⟨(g.recs r hr).2.2.1, (g.recs r hr).2.2.2⟩
  have h2 := g.n1
  omega
theorem cnt_le (l : List Sg.Edge) (P : Sg.Edge → Bool) : Sg.cnt l P ≤ l.length := by
  unfold Sg.cnt
  have h := List.countP_le_length (p := fun i => !P (Sg.ed l i)) (l := List.range l.length)
  rwa [List.length_range] at h
/-- What a Read of a segment made of batches finds: from the k-th batch on, its q-th record. -/
theorem Md.read {d : Dk.St} {s s0 : Sg.St} {room used : Int} {names : Dk.Dir} {x : Nat} {bs : List Rc.Bat} (h : Md d s room used names s0 x bs) (hl : (bs.flatMap Rc.bytes).length ≤ 1000000) (o most : Int) (k q : Nat) (hk : k < bs.length) (hq : o = bs[k].base + q) (hql : q < bs[k].recs.length) :
    ∃ f fin : Nat, f = Sg.cnt s.edges (fun e => decide (most < e.pos - ((Sg.ed s.edges (k + 1)).pos - (Rc.bytes (cutB bs[k] o q)).length))) ∧ (fin : Int) = max ((k : Int) + 1) ((f : Int) - 1) ∧ fin ≤ bs.length ∧ ReadH d s o most k q f fin bs[k] ((bs.drop (k + 1)).take (fin - (k + 1))) := by
  have hg := good_cut (h.good bs[k] (List.getElem_mem hk)) o q hql hq
  have hc := cnt_le s.edges (fun e => decide (most < e.pos - ((Sg.ed s.edges (k + 1)).pos - (Rc.bytes (cutB bs[k] o q)).length)))
  rw [h.len] at hc
  obtain ⟨fin, hfin⟩ : ∃ fin : Nat, (fin : Int) = max ((k : Int) + 1) (((Sg.cnt s.edges (fun e => decide (most < e.pos - ((Sg.ed s.edges (k + 1)).pos - (Rc.bytes (cutB bs[k] o q)).length)))) : Int) - 1) := ⟨(max ((k : Int) + 1) (((Sg.cnt s.edges (fun e => decide (most < e.pos - ((Sg.ed s.edges (k + 1)).pos - (Rc.bytes (cutB bs[k] o q)).length)))) : Int) - 1)).toNat, by omega⟩
  have hfl : fin ≤ bs.length := by omega
  refine ⟨_, fin, rfl, hfin, hfl, ?_⟩
  have e := h.seg
  have hsz := bytes_most _ hg
  subst e
  exact read_adds d s0 h.one h.zero bs h.chain h.good hl x (h.has.find _ _ h.nm) h.bytes o most k q _ fin hk hq hql ((Rc.bad_good _).2 hg) (by omega) rfl hfin hfl

set_option maxRecDepth 100000 in
set_option maxHeartbeats 2000000 in
theorem segFirst_any (w : World) (p : Nat → Addr) (hs : SentsG w p) (ht : Tabs w) (hpt : PowTab w) :
    Calls Tryz.prog 9 #[] w fun e w' => e = .returned (.bool true) ∧ Below w.heap.size w w' := by
  have hb1 : ∀ t, Below w.heap.size w (w.alloc (.cells #[.int .i64 2, .int .i64 2] t)) := fun t => balloc (Below.refl _ _) _
  have HRW := hide (fun (t : TypeId) => rowZ_any 0 (some ⟨w.heap.size, 0, none⟩) 2 2 [2, 2] (w.alloc (.cells #[.int .i64 2, .int .i64 2] t)) rfl (by omega) (by omega) (.inr ⟨_, 0, rfl, by simp, fun k hk => by
    have hk2 : k < 2 := hk
    rw [Nat.zero_add, World.cell?_alloc_mark]
    match k, hk2 with
    | 0, _ => rfl
    | 1, _ => rfl⟩) (fun k hk => by
    have hk2 : k < 2 := hk
    match k, hk2 with
    | 0, _ => exact ⟨by decide, by decide⟩
    | 1, _ => exact ⟨by decide, by decide⟩))
  have hgo : Rw.go ((0 : Nat) : Int) 0 0 [2, 2] = [Rw.bt 0 0 0 2, Rw.bt 3 1 0 2] := rfl
  have hok := Rw.go_ok [2, 2] 0 0 0 (by omega) (by simp) (by simp)
  have hgd : ∀ b ∈ Rw.go ((0 : Nat) : Int) 0 0 [2, 2], Rc.Good b := fun b hb => (hok b hb).1
  have hsm := Rw.go_small [2, 2] ((0 : Nat) : Int) 0 0 hgd
  have hch := Rw.go_chain [2, 2] ((0 : Nat) : Int) 0 0 (Sg.begin (Nm.seg 0) 0 100) rfl (by decide)
  have HMD := hide (fun (W : World) (hb : Below w.heap.size w W) (A : Option Addr) (cap : Nat) (hbt : Bats W A (Rw.go ((0 : Nat) : Int) 0 0 [2, 2])) => made_any 0 100 A cap 2 _ W p (hs.below hb) (ht.below hb (Nat.le_refl _)) (hpt.below hb) (Rw.go_len _ _ _ _) (by omega) hbt hgd hsm (by omega) (by omega) hch)
  have hfl := flat_len_le Rc.bytes 300 _ hsm
  rw [Rw.go_len] at hfl
  have HFL := hide hfl
  have HS := hide hs
  have HT := hide ht
  have HGO := hide hgo
  clear hs ht hpt hgo hok hgd hsm hch hfl
  generalize hcs : Rw.go ((0 : Nat) : Int) 0 0 [2, 2] = cs at *
  go_enter Tryz.func9, Tryz.ntmps9
  go_wp2_with (first
    | (go_at_call 12; refine (HRW.out _).mono ?_; rintro e w2 ⟨⟨A2, c2, rfl, hc2, hm2, hbt2, -⟩, hb2⟩; have HB2 := hide ((hb1 _).trans (hb2.mono (hb1 _).size)); have HBT := hide hbt2; clear hbt2 hb2)
    | (go_at_call 13; refine (HMD.out w2 HB2.out A2 c2 HBT.out).mono ?_; rintro e w3 ⟨Bd, X, S, T, d, s, x, rfl, hw3, hm3⟩; have HW3 := hide hw3; have HM3 := hide hm3; clear hw3 hm3)
    | fail)
  have hk : 1 < cs.length := by rw [HGO.out]; decide
  have ecs : cs[1] = Rw.bt 3 1 0 2 := by simp [HGO.out]
  obtain ⟨f, fin, -, hfin, hfl, hrd⟩ := HM3.out.read (by have := HFL.out; have e2 : ([2, 2] : List Int).length = 2 := rfl; rw [e2] at this; omega) 4 0 1 1 hk (by rw [ecs]; rfl) (by rw [ecs]; decide)
  have hl2 : cs.length = 2 := by rw [HGO.out]; rfl
  have hys : (cs.drop (1 + 1)).take (fin - (1 + 1)) = [] := by rw [List.drop_eq_nil_of_le (by omega), List.take_nil]
  rw [hys, ecs] at hrd
  have HRD := hide (sgRead_good w2 w3 S T _ Bd X d s p HW3.out (HS.out.below HB2.out) (HT.out.below HB2.out (Nat.le_refl _)) (by omega) 4 0 (by omega) 1 1 f fin _ [] hrd)
  clear hrd hys hfin hfl hk ecs hl2
  go_upto_region 6 with (first
    | (go_at_call 28; refine HRD.out.mono ?_; rintro e w4 ⟨v, qs, rfl, hr4, hq4, hb4⟩; have HR4 := hide hr4; have HQ4 := hide hq4; have HB4 := hide (HB2.out.trans ((HW3.out.below.trans (hb4.mono HW3.out.below.size)).mono HB2.out.size)); clear hr4 hq4 hb4 HRD)
    | fail)
  obtain ⟨A4, c4, rfl, hc4, hm4, hbts⟩ := HR4.out.val
  have hql : qs.length = 1 := by have := congrArg List.length HQ4.out; simpa using this
  rw [HQ4.out] at hbts
  obtain ⟨b5, o5, rfl, hb5, Ax, cx, x0, x1, x2, -⟩ := hbts.at_ 0 (by simp)
  have x0' : w4.cell? ⟨b5, o5, none⟩ = some (.int .i64 4) := by
    have h := x0
    simp only [List.getElem_cons_zero] at h
    simpa [cutB] using h
  have x2' : w4.cell? ⟨b5, o5 + 2, none⟩ = some (.slice Ax 2 cx) := by
    have e : ((cutB (Rw.bt 3 1 0 2) 4 1).recs.length) = 2 := by decide
    have h := x2
    simp only [List.getElem_cons_zero, e] at h
    simpa using h
  rw [hql] at hc4 ⊢
  clear x0 x1 x2 hbts
  go_wp2_with fail
  go_ret
  exact ⟨rfl, HB4.out⟩
end Go.Proofs.YtfdppggdgdnnaaaGreatDoor
