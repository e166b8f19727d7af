/-
  A segment made of batches, and its disk, plainly; the batches by numbers follow each other.
  Batches by numbers, all of one epoch: Row where epochs do not rise.
  Package seg: begin, Create.
  Package seg's statements: made; the chapter's examples.
-/
import Derived.Test.YtcmgppacipdnaaaGreatDoorQ36
import Derived.Test.YtcmgppacipdnaaaGreatDoorQ35
namespace Go.Proofs.YtcmgppacipdnaaaGreatDoor
namespace Rc
theorem eT_le (l : List UInt8) (K : Nat) (h : l.length ≤ K) (hK : K ≤ 512) : (eT l).length ≤ K + 10 := by
  have := eT_len l (by omega)
  omega
theorem recB_le (last : Int) (r : Rec) (K V : Nat) (hK : K ≤ 64) (hV : V ≤ 512) (h : -1099511627776 ≤ r.t ∧ r.t ≤ 1099511627776 ∧ r.k.length ≤ K ∧ r.v.length ≤ V) (h2 : -1099511627776 ≤ last ∧ last ≤ 1099511627776) : (recB last r).length ≤ 30 + K + V := by
  unfold recB
  rw [List.length_append, List.length_append]
  have h1 : (Vi.put (Vi.zz (r.t - last))).length ≤ 10 := Vi.size_le10 (Vi.zz_lt _ (by omega) (by omega))
  have := eT_le r.k K h.2.2.1 (by omega)
  have := eT_le r.v V h.2.2.2 hV
  omega
theorem recsB_le (K V : Nat) (hK : K ≤ 64) (hV : V ≤ 512) (rs : List Rec) : ∀ last, (∀ r ∈ rs, -1099511627776 ≤ r.t ∧ r.t ≤ 1099511627776 ∧ r.k.length ≤ K ∧ r.v.length ≤ V) → -1099511627776 ≤ last ∧ last ≤ 1099511627776 → (recsB last rs).length ≤ (30 + K + V) * rs.length := by
  induction rs with
  | nil => intro last _ _; simp [recsB]
  | cons a rs ih =>
    intro last h h2
    have ha := h a List.mem_cons_self
    have h3 := recB_le last a K V hK hV ha h2
    have h4 := ih a.t (fun r hr => h r (List.mem_cons_of_mem _ hr)) ⟨ha.1, ha.2.1⟩
    simp only [recsB, List.length_append, List.length_cons, Nat.mul_add, Nat.mul_one]
    omega
theorem bytes_le (b : Bat) (g : Good b) (K V : Nat) (hK : K ≤ 64) (hV : V ≤ 512) (h : ∀ r ∈ b.recs, r.k.length ≤ K ∧ r.v.length ≤ V) : (bytes b).length ≤ 32 + (30 + K + V) * b.recs.length := by
  have h1 := recsB_le K V hK hV b.recs (Rc.t0 b) (fun r hr => ⟨(g.recs r hr).1, (g.recs r hr).2.1, h r hr⟩) g.t0
  have h2 := g.t0
  have h3 : (Vi.put (Vi.zz (Rc.t0 b))).length ≤ 10 := Vi.size_le10 (Vi.zz_lt _ (by omega) (by omega))
  have h4 := bytes_len b
  have h5 : (body b).length = (hd b).length + (Vi.put (Vi.zz (Rc.t0 b))).length + (recsB (Rc.t0 b) b.recs).length := by unfold body; rw [List.length_append, List.length_append]
  rw [hd_len] at h5
  omega
end Rc
namespace Rw
theorem bt_small (at_ : Int) (i ev : Nat) (z : Int) (g : Rc.Good (bt at_ i ev z)) : (Rc.bytes (bt at_ i ev z)).length ≤ 300 := by
  have h := Rc.bytes_le (bt at_ i ev z) g 1 8 (by omega) (by omega) (fun r hr => by
    obtain ⟨k, hk, rfl⟩ := List.mem_map.1 hr
    have := kv_lt z k
    exact ⟨by simp [rc], by simp [rc]; omega⟩)
  have hl : (bt at_ i ev z).recs.length = many z := by simp [bt]
  have hm := many_bd z
  rw [hl] at h
  generalize many z = m at *
  omega
theorem go_small (zs : List Int) : ∀ (at_ : Int) (i ev : Nat), (∀ b ∈ go at_ i ev zs, Rc.Good b) → ∀ b ∈ go at_ i ev zs, (Rc.bytes b).length ≤ 300 := by
  induction zs with
  | nil => intro at_ i ev _ b hb; simp [go] at hb
  | cons z zs ih =>
    intro at_ i ev hg b hb
    rcases List.mem_cons.1 hb with rfl | hb
    · exact bt_small _ _ _ _ (hg _ List.mem_cons_self)
    · exact ih _ _ _ (fun x hx => hg x (List.mem_cons_of_mem _ hx)) b hb
/-- They follow each other. -/
theorem go_chain (zs : List Int) : ∀ (at_ : Int) (i ev : Nat) (s : Sg.St), (Sg.last s.edges).off = at_ → (Sg.last s.edges).ep ≤ 1 + ((i / ev : Nat) : Int) → Sg.Chain s (go at_ i ev zs) := by
  induction zs with
  | nil => intro at_ i ev s _ _; exact trivial
  | cons z zs ih =>
    intro at_ i ev s h1 h2
    refine ⟨?_, ih _ _ _ _ ?_ ?_⟩
    · unfold Sg.follows
      rw [h1]
      have e1 : (bt at_ i ev z).base = at_ := rfl
      have e2 : (bt at_ i ev z).epoch = 1 + ((i / ev : Nat) : Int) := rfl
      rw [e1, e2, decide_eq_true h2]
      simp
    · rw [Sg.add_last]
      show at_ + ((bt at_ i ev z).recs.length : Int) = _
      simp [bt]
    · rw [Sg.add_last]
      show 1 + ((i / ev : Nat) : Int) ≤ _
      have h3 : i / ev ≤ (i + 1) / ev := Nat.div_le_div_right (by omega)
      generalize i / ev = x at *
      generalize (i + 1) / ev = y at *
      omega
end Rw
theorem flat_len_le {α β : Type} (f : α → List β) (N : Nat) : ∀ l : List α, (∀ b ∈ l, (f b).length ≤ N) → (l.flatMap f).length ≤ N * l.length := by
  intro l
  induction l with
  | nil => intro _; simp
  | cons a l ih =>
    intro h
    have h1 := h a List.mem_cons_self
    have h2 := ih fun b hb => h b (List.mem_cons_of_mem _ hb)
    rw [List.flatMap_cons, List.length_append, List.length_cons, Nat.mul_add, Nat.mul_one]
    omega

namespace Dk
/-- A disk with its power, by its names, which are kept. -/
def Has (d : St) (room used : Int) (names : Dir) : Prop := ∃ calls, V d room used calls names names []
section
variable {d : St} {room used : Int} {names : Dir}
theorem Has.new (room : Int) : Has (St.new room) room 0 (fun _ => none) := ⟨_, V.new room⟩
theorem Has.find (h : Has d room used names) (k : Nm) (i : Nat) (hn : names k = some i) : d.find k = (none, some i) := by
  obtain ⟨_, v⟩ := h; exact v.find k i hn
theorem Has.len (h : Has d room used names) (k : Nm) (i : Nat) (hn : names k = some i) : d.lenOf k = ((d.files i).bytes.length : Int) := by
  obtain ⟨_, v⟩ := h; exact (v.len k i hn).1
theorem Has.read (h : Has d room used names) (k : Nm) (i n : Nat) (hn : names k = some i) (hr : (d.files i).bytes.length = n) : d.readOf k 0 n = (none, (d.files i).bytes) := by
  obtain ⟨_, v⟩ := h
  rw [v.read k i n hn (by omega), ← hr, List.take_length]
theorem Has.append (h : Has d room used names) (k : Nm) (i : Nat) (b : Nm) (hn : names k = some i) (hr : (b.length : Int) ≤ room - used) :
    ∃ d', d.append k b = (none, d') ∧ Has d' room (used + b.length) names ∧ (d'.files i).bytes = (d.files i).bytes ++ b ∧ ∀ x, x ≠ i → d'.files x = d.files x := by
  obtain ⟨_, v⟩ := h
  obtain ⟨d', e, v', f, g⟩ := v.append k i b hn hr
  exact ⟨d', e, ⟨_, v'⟩, by rw [f], g⟩
theorem Has.sync (h : Has d room used names) (k : Nm) (i : Nat) (hn : names k = some i) :
    ∃ d', d.sync k = (none, d') ∧ Has d' room used names ∧ (d'.files i).bytes = (d.files i).bytes ∧ ∀ x, x ≠ i → d'.files x = d.files x := by
  obtain ⟨_, v⟩ := h
  obtain ⟨d', e, v', f, g⟩ := v.sync k i hn
  exact ⟨d', e, ⟨_, v'⟩, by rw [f], g⟩
/-- The three calls of a segment that begins. -/
theorem Has.begin_ (h : Has d room used names) (k : Nm) (hv : valid k = true) (hn : names k = none) :
    ∃ d1 d2 d3 : Nat → St, (∀ x, d.create k x = (none, d1 x)) ∧ (∀ x, (d1 x).sync k = (none, d2 x)) ∧ (∀ x, (d2 x).syncDir = (none, d3 x)) ∧
      ∀ x, Has (d3 x) room used (upd names k (some x)) ∧ ((d3 x).files x).bytes = [] ∧ ∀ y, y ≠ x → (d3 x).files y = d.files y := by
  obtain ⟨calls, v⟩ := h
  have hup : ∀ x, upd names k (some x) k = some x := fun x => upd_same _ _ _
  have key : ∀ x, ∃ t : St × St × St, d.create k x = (none, t.1) ∧ t.1.sync k = (none, t.2.1) ∧ t.2.1.syncDir = (none, t.2.2) ∧ Has t.2.2 room used (upd names k (some x)) ∧ (t.2.2.files x).bytes = [] ∧ ∀ y, y ≠ x → t.2.2.files y = d.files y := fun x => by
    obtain ⟨t1, e1, v1, f1, g1⟩ := v.create k x hv hn
    obtain ⟨t2, e2, v2, f2, g2⟩ := v1.sync k x (hup x)
    obtain ⟨t3, e3, v3, f3⟩ := v2.syncDir
    have hd : ons ([] ++ [⟨[], k, some x⟩]) names = upd names k (some x) := by rw [List.nil_append]; exact on_to k (some x) names (valid_ne hv)
    rw [hd] at v3
    exact ⟨(t1, t2, t3), e1, e2, e3, ⟨_, v3⟩, by rw [f3, f2, f1], fun y hy => by rw [f3, g2 y hy, g1 y hy]⟩
  exact ⟨fun x => (key x).choose.1, fun x => (key x).choose.2.1, fun x => (key x).choose.2.2, fun x => (key x).choose_spec.1, fun x => (key x).choose_spec.2.1, fun x => (key x).choose_spec.2.2.1, fun x => (key x).choose_spec.2.2.2⟩
theorem Has.cut (h : Has d room used names) (k : Nm) (i n : Nat) (hn : names k = some i) (hr : n ≤ (d.files i).bytes.length) :
    ∃ d' used', d.cut k n = (none, d') ∧ Has d' room used' names ∧ used' ≤ used ∧ d'.files i = (d.files i).keep n ∧ ∀ x, x ≠ i → d'.files x = d.files x := by
  obtain ⟨_, v⟩ := h
  obtain ⟨d', e, v', f, g⟩ := v.cut k i n hn hr
  exact ⟨d', _, e, ⟨_, v'⟩, by omega, f, g⟩
theorem Has.synced (h : Has d room used names) (k : Nm) (i : Nat) (hn : names k = some i) : d.syncedOf k = ((d.files i).synced : Int) := by
  obtain ⟨_, v⟩ := h; exact (v.len k i hn).2
end
end Dk
/-- A segment of these batches, and its disk. -/
structure Md (d : Dk.St) (s : Sg.St) (room used : Int) (names : Dk.Dir) (s0 : Sg.St) (x : Nat) (bs : List Rc.Bat) : Prop where
  has : Dk.Has d room used names
  one : s0.edges.length = 1
  zero : (Sg.last s0.edges).pos = 0
  nm : names s0.file = some x
  bytes : (d.files x).bytes = bs.flatMap Rc.bytes
  seg : s = Sg.adds s0 bs
  chain : Sg.Chain s0 bs
  good : ∀ b ∈ bs, Rc.Good b
section
variable {d : Dk.St} {s s0 : Sg.St} {room used : Int} {names : Dk.Dir} {x : Nat} {bs : List Rc.Bat}
theorem Md.file (h : Md d s room used names s0 x bs) : s.file = s0.file := by rw [h.seg]; exact (Sg.adds_file bs s0).1
theorem Md.len (h : Md d s room used names s0 x bs) : s.edges.length = bs.length + 1 := by rw [h.seg, Sg.adds_len, h.one]; omega
theorem Md.pos (h : Md d s room used names s0 x bs) : (Sg.last s.edges).pos = ((bs.flatMap Rc.bytes).length : Int) := by rw [h.seg, Sg.adds_pos, h.zero]; omega
theorem Md.add (h : Md d s room used names s0 x bs) (b : Rc.Bat) (hg : Rc.Good b) (hf : Sg.follows s.edges b = true) (hr : ((Rc.bytes b).length : Int) ≤ room - used) :
    ∃ d', sgApp d s b = (none, d', s.add b (Rc.bytes b).length) ∧ Md d' (s.add b (Rc.bytes b).length) room (used + (Rc.bytes b).length) names s0 x (bs ++ [b]) := by
  obtain ⟨d', e, hh, hb, -⟩ := h.has.append s.file x (Rc.bytes b) (by rw [h.file]; exact h.nm) hr
  refine ⟨d', ?_, hh, h.one, h.zero, h.nm, ?_, ?_, ?_, fun y hy => ?_⟩
  · unfold sgApp
    rw [if_neg (by rw [(Rc.bad_good b).2 hg]; simp), if_neg (by rw [hf]; simp), e, if_pos rfl]
  · rw [hb, h.bytes, List.flatMap_append]; simp
  · rw [h.seg, Sg.adds_append]; rfl
  · rw [Sg.Chain.append]
    exact ⟨h.chain, by rw [← h.seg]; exact hf, trivial⟩
  · rcases List.mem_append.1 hy with hy | hy
    · exact h.good y hy
    · rw [List.mem_singleton] at hy; subst hy; exact hg
end
/-- The next of a chain follows. -/
theorem chain_next {s0 : Sg.St} {cs : List Rc.Bat} (h : Sg.Chain s0 cs) (k : Nat) (hk : k < cs.length) : Sg.follows (Sg.adds s0 (cs.take k)).edges cs[k] = true := by
  have e : cs = cs.take k ++ cs.drop k := (List.take_append_drop _ _).symm
  rw [e] at h
  have h2 := (Sg.Chain.append.1 h).2
  rw [List.drop_eq_getElem_cons hk] at h2
  exact h2.1
theorem seg_valid {base : Int} (h : 0 ≤ base ∧ base ≤ 1099511627776) : Dk.valid (Nm.seg base) = true := by
  have e : Nm.seg base = Nm.segN base.toNat := by unfold Nm.seg; rw [if_pos (by simp [Nm.right]; omega)]
  have hall : (Nm.segN base.toNat).all Dk.okByte = true := by
    rw [List.all_eq_true]
    intro c hc
    unfold Nm.segN at hc
    rcases List.mem_append.1 hc with hc | hc
    · simp only [Nm.log, List.mem_cons, List.not_mem_nil, or_false] at hc
      rcases hc with rfl | rfl | rfl | rfl <;> decide
    · have hd := Nm.dgs_digit 13 _ c hc
      unfold Nm.digit at hd
      have h1 : (48 : UInt8) ≤ c := UInt8.le_iff_toNat_le.2 hd.1
      have h2 : c ≤ (57 : UInt8) := UInt8.le_iff_toNat_le.2 hd.2
      simp [Dk.okByte, h1, h2]
  rw [e]
  unfold Dk.valid
  rw [hall, Nm.segN_length]
  rfl
end Go.Proofs.YtcmgppacipdnaaaGreatDoor

namespace Go.Proofs.YtcmgppacipdnaaaGreatDoor
open Go.RowKit

set_option maxRecDepth 100000 in
set_option maxHeartbeats 4000000 in
theorem rowZ_any (base : Nat) (A : Option Addr) (cap n : Nat) (zs : List Int) (w : World) (hn : zs.length = n) (hn2 : n ≤ 20) (hb : base ≤ 1073741824) (hA : Ints w A zs) (hz : ∀ k, k < zs.length → -9223372036854775808 ≤ zs.getD k 0 ∧ zs.getD k 0 ≤ 9223372036854775807) :
    Calls Tryz.prog 15 #[.int .i64 base, .slice A n cap, .int .i64 0] w fun e w' => (∃ A c, e = .returned (.slice A n c) ∧ n ≤ c ∧ c ≤ 9223372036854775807 ∧ Bats w' A (Rw.go base 0 0 zs) ∧ ∃ qs, BRow w' w.heap.size (.slice A n c) qs ∧ qs.map (·.b) = Rw.go base 0 0 zs) ∧ Below w.heap.size w w' := by
  subst hn
  have HA := hide hA
  have HZ := hide hz
  clear hA hz
  go_enter Tryz.func15, Tryz.ntmps15
  go_wp2_with fail
  go_loopw [7, 8, 9] (fun v at_ i wr => ∃ (k : Nat) (a : Nat) (qs : List PBat), k ≤ zs.length ∧ i = .int .i64 k ∧ at_ = .int .i64 a ∧ a ≤ base + 5 * k ∧ BRow wr w.heap.size v qs ∧ qs.length = k ∧ Below w.heap.size w wr ∧ qs.map (·.b) ++ Rw.go a k 0 (zs.drop k) = Rw.go base 0 0 zs) (fun _ _ i _ => zs.length - (intOf i).toNat)
  case atStart => exact ⟨0, base, [], Nat.zero_le _, rfl, rfl, by omega, BRow.nil _ _, rfl, Below.refl _ _, by simp⟩
  case round =>
    obtain ⟨k, a, qs, hk, rfl, rfl, ha, hrow, hql, hb, hgo⟩ := hrel
    have HRW := hide hrow
    have HBK := hide hb
    have HGO := hide hgo
    have HQL := hide hql
    clear hrow hb hgo hql
    obtain ⟨Av, cv, rfl, -, -, -⟩ := HRW.out.val
    by_cases hlt : k < zs.length
    · rcases HA.out with e0 | ⟨b, off, rfl, hb0, hcl⟩
      · rw [e0] at hlt; simp at hlt
      have hcell : wr.cell? ⟨b, off + k, none⟩ = some (.int .i64 (zs.getD k 0)) := (HBK.out.cell (p := ⟨b, off + k, none⟩) hb0).trans (hcl k hlt)
      obtain ⟨bd1, bd2⟩ := HZ.out k hlt
      have HDR : Hid (zs.drop k = zs.getD k 0 :: zs.drop (k + 1)) := by
        show _ = _
        rw [List.drop_eq_getElem_cons hlt]; simp [List.getD, hlt]
      have HCEL := hide (hcl k hlt)
      have HB0L := hide hb0
      clear hcl
      generalize zs.getD k 0 = z at *
      have hbl : b < wr.heap.size := Nat.lt_of_lt_of_le hb0 HBK.out.size
      go_upto_region 7 with fail
      have hbld := Bld.new (Below.refl wr.heap.size wr) (a : Int) 1 36
      have HBD := hide hbld
      obtain ⟨BB, hBB⟩ : ∃ BB, BB = wr.heap.size := ⟨_, rfl⟩
      rw [← hBB] at HBD ⊢
      have HBB := hide hBB
      have y0 := HBD.out.c1
      have y1 := HBD.out.f 1
      have HW4 : Hid (Below wr.heap.size wr (wr.alloc (.cells #[.int .i64 (a : Int), .int .i64 1, .slice none 0 0] 36))) := hide (balloc (Below.refl _ _) _)
      clear hbld hBB
      generalize wr.alloc (.cells #[.int .i64 (a : Int), .int .i64 1, .slice none 0 0] 36) = w4 at *
      obtain ⟨ep, hepo⟩ : ∃ ep : Int, 1 + ((k / 0 : Nat) : Int) = ep := ⟨_, rfl⟩
      have HEP := hide hepo
      have he1 : ep = 1 := by rw [← hepo]; simp
      have HE1 := hide he1
      have HB5 : Hid (Bld wr w4 BB (BB + 1) (a : Int) ep (.slice none 0 0) []) := hide (by rw [HE1.out]; exact HBD.out)
      have HW5 := hide HW4.out
      clear y0 y1 HBD HW4 hepo he1
      generalize w4 = w5 at *
      have hc5 := (HW5.out.cell (p := ⟨b, off + k, none⟩) hbl).trans hcell
      have HNM := hide (fun W => num_at z 5 5 W rfl (by omega) (by omega) bd1 bd2)
      have hm5 := num_lt z 5 (by omega)
      go_wp2_with fail
      refine (HNM.out _).mono ?_
      rintro e w6 ⟨rfl, rfl⟩
      have HMN : Hid (Rw.many z = num z 5 + 1) := hide rfl
      generalize num z 5 = nz at *
      clear HNM hcell
      go_upto_block 2 with fail
      go_cut [12] (fun _ wx => ∃ v ps, Bld wr wx BB (BB + 1) a ep v ps ∧ ps.map (·.r) = (List.range (nz + 1)).map (Rw.rc k z))
      case first =>
        go_wp2_with fail
        go_loopw [12] (fun i wi => ∃ (j : Nat) (v : Value) (ps : List PRec), j ≤ nz + 1 ∧ i = .int .i64 j ∧ Bld wr wi BB (BB + 1) a ep v ps ∧ ps.map (·.r) = (List.range j).map (Rw.rc k z)) (fun i _ => nz + 1 - (intOf i).toNat)
        case atStart => exact ⟨0, _, [], Nat.zero_le _, rfl, HB5.out, by simp⟩
        case round =>
          obtain ⟨j, v, ps, hj, rfl, hbld, hps⟩ := hrel
          have HBL := hide hbld
          have HPS := hide hps
          have hpl : ps.length = j := by
            have := congrArg List.length hps
            rwa [List.length_map, List.length_map, List.length_range] at this
          have HPL := hide hpl
          clear hps hpl
          by_cases hlj : j < nz + 1
          · have hci := (hbld.below.cell (p := ⟨b, off + k, none⟩) hbl).trans ((HBK.out.cell (p := ⟨b, off + k, none⟩) HB0L.out).trans HCEL.out)
            have HNV := hide (fun W => num_at (IntKind.i64.wrap (z + j)) 9 9 W rfl (by omega) (by omega) (by rw [IntKind.wrap_i64]; omega) (by rw [IntKind.wrap_i64]; omega))
            have hkv : num (IntKind.i64.wrap (z + j)) 9 = Rw.kv z j := rfl
            rw [hkv, IntWalk.i64_left] at HNV
            have hkl := Rw.kv_lt z j
            have HRC : Hid (Rw.rc k z j = ⟨100 * (k : Int) + j, [UInt8.ofNat (97 + Rw.kv z j)], List.replicate (Rw.kv z j) 0⟩) := hide rfl
            generalize Rw.kv z j = N at *
            obtain ⟨CS, hcs, hmk⟩ := make_bytes N (by omega)
            obtain ⟨Ab, cb, rfl, -, -, -⟩ := hbld.row.val
            have z0 := hbld.c2
            have z1 := hbld.f 2
            have hos := hbld.os
            clear hbld hkv
            go_wp2_with fail
            refine (HNV.out _).mono ?_
            rintro e w9 ⟨rfl, rfl⟩
            clear HNV
            go_upto_region 15 with fail
            obtain ⟨W3, hW3⟩ : ∃ W3, W3 = ((wr.alloc (.cells #[.int .u8 (97 + (N : Int))] 5)).alloc (.cells CS 5)).alloc (.cells #[.int .i64 (100 * (k : Int) + (j : Int)), .slice (some ⟨wr.heap.size, 0, none⟩) 1 1, .slice (some ⟨wr.heap.size + 1, 0, none⟩) N N] 80) := ⟨_, rfl⟩
            obtain ⟨hb3, hz3, ⟨x0, x1, x2⟩, ht1, ht2⟩ := row_new wr N hkl CS hcs (100 * (k : Int) + (j : Int)) (BB + 1) (.slice Ab ps.length cb) hos (fun q hq => (HBL.out.row.own.lt q hq).2) W3 hW3
            rw [← hW3]
            have HB3 := hide (HBL.out.quiet hb3)
            have z0 := HB3.out.c2
            have z1 := HB3.out.f 2
            have HT1 := hide ht1
            have HT2 := hide ht2
            have hos3 := HB3.out.os
            obtain ⟨i0, hi, hz, hs1, hby⟩ := info_parts record_info
            clear hW3 hb3 hz3 ht1 ht2 hcs hmk hos
            have HBAL : Hid (Below W3.heap.size W3 (W3.alloc (.cells #[.int .i64 (100 * (k : Int) + (j : Int)), .slice (some ⟨wr.heap.size, 0, none⟩) 1 1, .slice (some ⟨wr.heap.size + 1, 0, none⟩) N N] 80))) := hide (balloc (Below.refl _ _) _)
            have hlr : (List.replicate N (0 : UInt8)).length = N := List.length_replicate
            have HLR := hide hlr
            have HPC : Hid (PRec.cells ⟨⟨100 * (k : Int) + (j : Int), [UInt8.ofNat (97 + N)], List.replicate N 0⟩, some ⟨wr.heap.size, 0, none⟩, 1, some ⟨wr.heap.size + 1, 0, none⟩, N⟩ = [.int .i64 (100 * (k : Int) + (j : Int)), .slice (some ⟨wr.heap.size, 0, none⟩) 1 1, .slice (some ⟨wr.heap.size + 1, 0, none⟩) N N]) := by
              show _ = _
              unfold PRec.cells
              rw [HLR.out]; rfl
            clear hlr
            go_wp2_with (at_builtin; refine wpList_append_own_at (w := W3.alloc _) rfl (.tmp 61) (.tmp 63) 34 rfl (BB + 1) 80 i0 _ 3 56 Tryz.underlying34 hi hz hs1 hby rfl (by omega) (.slice Ab ps.length cb) ps.length (ps.flatMap PRec.cells) rfl (HB3.out.row.own.alloc _) ⟨W3.heap.size, 0, none⟩ 1 1 (PRec.cells ⟨⟨100 * (k : Int) + (j : Int), [UInt8.ofNat (97 + N)], List.replicate N 0⟩, some ⟨wr.heap.size, 0, none⟩, 1, some ⟨wr.heap.size + 1, 0, none⟩, N⟩) rfl rfl (by rw [HPC.out]; exact cells_three _ _ _ _ _) (PRec.cells_one _) (by have := HPL.out; simp only [maxLen]; omega) (by have := HPL.out; omega) (by simp; omega) ?_; intro v5 wd hown5 hg5 hnil5 hat5; obtain ⟨g5, c5, rfl⟩ := row_succ' hown5; have ymid := HB3.out.mid HBAL.out hg5; have y2 := ymid.1; have y3 := ymid.2; have HPUSH := hide (HB3.out.push (q := ⟨⟨100 * (k : Int) + (j : Int), [UInt8.ofNat (97 + N)], List.replicate N 0⟩, some ⟨wr.heap.size, 0, none⟩, 1, some ⟨wr.heap.size + 1, 0, none⟩, N⟩) HT1.out HT2.out HBAL.out hg5 hat5 hown5); clear hown5 hg5 hnil5 hat5 ymid)
            refine ⟨⟨j + 1, _, _, by omega, by go_num, HPUSH.out, ?_⟩, by simp [intOf]; omega⟩
            rw [List.map_append, HPS.out, List.range_succ, List.map_append, List.map_singleton, List.map_singleton, HRC.out]
          · obtain rfl : j = nz + 1 := by omega
            go_wp2_with fail
            go_meet
            exact ⟨_, ps, HBL.out, HPS.out⟩
      case rest =>
        obtain ⟨v, ps, hbld, hps⟩ := hcut
        have HBL := hide hbld
        have HPS := hide hps
        obtain ⟨Ab, cb, rfl, hpc, hpm, -⟩ := hbld.row.val
        have c0 := hbld.c0
        have c1 := hbld.c1
        have c2 := hbld.c2
        have hbw := hbld.below
        have HBW := hide hbw
        have HR6 := hide (HRW.out.below hbw)
        have hep1 : 0 ≤ ep ∧ ep ≤ 1000 := by
          rw [HE1.out]
          omega
        have HNEW := hide (hbld.row.newBat (a : Int) ep (by omega) (by omega))
        have hpl : (ps.map (·.r)).length = ps.length := List.length_map _
        have HPL := hide hpl
        have HBAL : Hid (Below wc.heap.size wc (wc.alloc (.cells #[.int .i64 (a : Int), .int .i64 ep, .slice Ab ps.length cb] 36))) := hide (balloc (Below.refl _ _) _)
        have HZW : Hid (w.heap.size ≤ wc.heap.size) := hide (Nat.le_trans HBK.out.size hbw.size)
        have HPC : Hid (PBat.cells ⟨⟨(a : Int), ep, ps.map (·.r)⟩, Ab, cb⟩ = [.int .i64 (a : Int), .int .i64 ep, .slice Ab ps.length cb]) := by
          show _ = _
          unfold PBat.cells
          rw [HPL.out]
        obtain ⟨i0, hi, hz, hs1, hby⟩ := info_parts batch_info
        clear hbld hps hbw hpl
        go_wp2_with (at_builtin; refine wpList_append_own_at (w := wc.alloc _) rfl (.tmp 69) (.tmp 71) 26 rfl w.heap.size 36 i0 _ 3 40 Tryz.underlying26 hi hz hs1 hby rfl (by omega) (.slice Av qs.length cv) qs.length (qs.flatMap PBat.cells) rfl (HR6.out.own.alloc _) ⟨wc.heap.size, 0, none⟩ 1 1 (PBat.cells ⟨⟨(a : Int), ep, ps.map (·.r)⟩, Ab, cb⟩) rfl rfl (by rw [HPC.out]; exact cells_three _ _ _ _ _) (PBat.cells_one _) (by have := HQL.out; simp only [maxLen]; omega) (by have := HQL.out; omega) (by have := HZW.out; simp; omega) ?_; intro v5 wd hown5 hg5 hnil5 hat5; have HROW5 := hide (HR6.out.app (q := ⟨⟨(a : Int), ep, ps.map (·.r)⟩, Ab, cb⟩) (by have := HBK.out.size; have := HBB.out; omega) HNEW.out (Above.refl _ _) (fun q hq => by have := (HRW.out.own.lt q hq).2; have := HBB.out; omega) HBAL.out hg5 hat5 hown5); have HB5 := hide ((HBK.out.trans (HBW.out.mono HBK.out.size)).trans ((HBAL.out.mono HZW.out).trans ((Below.refl w.heap.size _).grown hg5 (by have := HZW.out; simp; omega) (fun q hq => (HRW.out.own.lt q hq).1)))); clear hown5 hg5 hnil5 hat5)
        refine ⟨⟨k + 1, a + (nz + 1), _, by omega, by go_num, by go_num, by omega, HROW5.out, by rw [List.length_append, HQL.out]; rfl, HB5.out, ?_⟩, by simp [intOf]; omega⟩
        rw [← HGO.out, HDR.out, List.map_append, List.append_assoc, Rw.go]
        have e1 : Rw.bt (a : Int) k 0 z = ⟨(a : Int), ep, ps.map (·.r)⟩ := by
          unfold Rw.bt
          rw [HPS.out, HMN.out, ← HEP.out]
        have e2 : ((a : Int) + (Rw.many z : Int)) = ((a + (nz + 1) : Nat) : Int) := by
          rw [HMN.out]; omega
        rw [e1, e2]
        rfl
    · obtain rfl : k = zs.length := by omega
      obtain ⟨Ax, cx, hv, hc1, hc2, hbx⟩ := HRW.out.val
      injection hv with hv1 hv2 hv3
      subst hv1 hv3
      have HBX := hide hbx
      clear hbx
      have HEN : Hid (qs.map (·.b) = Rw.go base 0 0 zs) := by
        show _ = _
        rw [← HGO.out, List.drop_length]
        simp [Rw.go]
      go_wp2_with fail
      go_ret
      refine ⟨⟨Av, cv, by rw [HQL.out]; rfl, by rw [← HQL.out]; exact hc1, hc2, by rw [← HEN.out]; exact HBX.out, qs, by rw [← HQL.out]; exact HRW.out, HEN.out⟩, HBK.out⟩
end Go.Proofs.YtcmgppacipdnaaaGreatDoor

namespace Go.Proofs.YtcmgppacipdnaaaGreatDoor
open Go.RowKit Go.Maps Go.Sort

theorem seg_name {base : Int} (h : 0 ≤ base ∧ base ≤ 1099511627776) : (Nm.seg base).length = 17 := by
  unfold Nm.seg
  rw [if_pos (show Nm.right base from h)]
  exact Nm.segN_length _

set_option maxRecDepth 100000 in
set_option maxHeartbeats 1000000 in
theorem sgBegin_any (D : Nat) (base every : Int) (w : World) (h0 : 0 ≤ base ∧ base ≤ 1099511627776) (h1 : 1 ≤ every ∧ every ≤ 1048576) (ht : PowTab w) :
    Calls Tryz.prog 157 #[.pointer (some ⟨D, 0, none⟩), .int .i64 base, .int .i64 every] w fun e w' => ∃ X, e = .returned (.tuple #[.pointer (some ⟨X, 0, none⟩), .nilIface]) ∧ SegAt w' X D (Sg.begin (Nm.seg base) base every) (fun k => w.heap.size ≤ k ∧ k < w'.heap.size) ∧ Below w.heap.size w w' := by
  have HSG := hide (segment_any base w ht)
  have HNW := hide (fun (W : World) => ixNew_any every W h1)
  have hl := seg_name h0
  generalize Nm.seg base = r at *
  have hz : r.isEmpty = false := by
    cases r with
    | nil => simp at hl
    | cons a r => rfl
  clear ht hl
  go_enter Tryz.func157, Tryz.ntmps157
  go_wp2_with (first
    | (go_at_call 156; refine HSG.out.mono ?_; rintro e w1 ⟨rfl, hb1⟩; have HB1 := hide hb1; clear hb1)
    | (go_at_call 71; refine (HNW.out _).mono ?_; rintro e w2 ⟨rfl, -, hb2⟩; have HB2 := hide (HB1.out.trans (hb2.mono HB1.out.size)); clear hb2)
    | fail)
  go_ret2
  refine ⟨w2.heap.size + 1, by simp, ⟨.slice (some ⟨w2.heap.size, 0, none⟩) 1 1, ?_, ?_, ?_, ?_⟩, balloc (balloc HB2.out _) _⟩
  · have h := heap_alloc_new (w2.alloc (.cells #[.int .i64 base, .int .i64 0, .int .i64 0, .int .i64 0] 138)) (.cells (sgCells D (Sg.begin r base every) (.slice (some ⟨w2.heap.size, 0, none⟩) 1 1)) 141)
    simpa [sgCells, Sg.begin] using h
  · refine ⟨rfl, .inr ⟨w2.heap.size, 1, #[.int .i64 base, .int .i64 0, .int .i64 0, .int .i64 0], rfl, Nat.zero_le _, ?_, Nat.le_refl _, by decide, rfl, rfl⟩⟩
    exact ((balloc (Below.refl _ _) _).block w2.heap.size (by simp)).trans (heap_alloc_new w2 _)
  · have := HB2.out.size
    simp
    omega
  · intro g hg
    have e : w2.heap.size = g := by simpa [Value.ownBlock] using hg
    have := HB2.out.size
    simp
    omega

end Go.Proofs.YtcmgppacipdnaaaGreatDoor

namespace Go.Proofs.YtcmgppacipdnaaaGreatDoor
open Go.RowKit Go.Maps Go.Sort

theorem Bats.at_ {w : World} {A : Option Addr} {cs : List Rc.Bat} (h : Bats w A cs) (k : Nat) (hk : k < cs.length) : ∃ b off, A = some ⟨b, off, none⟩ ∧ b < w.heap.size ∧ ∃ Ax cx, w.cell? ⟨b, off + k * 3, none⟩ = some (.int .i64 cs[k].base) ∧ w.cell? ⟨b, off + k * 3 + 1, none⟩ = some (.int .i64 cs[k].epoch) ∧ w.cell? ⟨b, off + k * 3 + 2, none⟩ = some (.slice Ax cs[k].recs.length cx) ∧ IsBat w Ax cx cs[k] := by
  rcases h with h | ⟨b, off, e, hb, hc⟩
  · rw [h] at hk; simp at hk
  · obtain ⟨Ax, cx, h0, h1, h2, h3⟩ := (hc k hk).ex
    exact ⟨b, off, e, hb, Ax, cx, h0, h1, h2, h3⟩
theorem SgW.cellW {w0 w : World} {S T : Nat → Prop} {n Bd X : Nat} {d : Dk.St} {s : Sg.St} (h : SgW w0 S T n Bd d X s w) {W : World} (hc : Chg (fun k => S k ∨ T k) w W) : Below w0.heap.size w0 W :=
  h.below.trans (hc.below h.below.size fun k hk => by
    rcases hk with hk | hk
    · exact (h.disk.lo k hk).1
    · exact (h.lo k hk).1)

end Go.Proofs.YtcmgppacipdnaaaGreatDoor
