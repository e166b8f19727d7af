/-
  A disk's maps of names: looked up, stored into, struck from, at the operation; and whether a name may be.
  The file of a name; what is ahead of a call that changes a file; the first bytes of a file kept.
  One file of a disk is turned; its first bytes kept.
  The calls of a disk that change a file: Sync, Cut, Append.
-/
import Derived.Test.YtcmgppacipdnaaaGreatDoorQ17
import Derived.Maps.OwnIn
import Derived.Deep.QuietTactic
import Derived.BigQuiet
import Derived.Deep.Cut
namespace Go.Proofs.YtcmgppacipdnaaaGreatDoor
open Go.RowKit Go.Maps Go.ChangeMaps Go.MapKept

theorem zero_file (w : World) : (zeroValue 106).run Tryz.prog w = .ok (.pointer none) w := by kernel_rfl
theorem str_key {k : Dk.Nm} (hk : k.length ≤ 9223372036854775807) : keyOf Tryz.prog 9 (encStr k) = some (.string k) := by
  have := Go.WideMaps.keyOf_string_mk (P := Tryz.prog) Tryz.underlying9 (s := ⟨k.toArray⟩) (by simpa [maxLen, ByteArray.size] using hk)
  simpa using this
/-- m[k] -/
theorem NamesAt.look {w : World} {b n : Nat} {f : Dk.Dir} (h : NamesAt w b n f) (k : Dk.Nm) (hk : k.length ≤ 9223372036854775807) :
    (Instr.lookup 97 (.map (some b)) (encStr k) false).run Tryz.prog w = .ok (fileV (f k)) w := by
  obtain ⟨D, h1, h2⟩ := h.ex
  obtain ⟨v, ps, hrun, hv⟩ := h1.lookup str_law Tryz.underlying97 (zero_file w) ptrE_nil (str_key hk)
  rw [h2] at hv
  rw [hrun, ptrE_inv hv]
/-- m[k] = file i -/
theorem NamesAt.put {w : World} {b n : Nat} {f : Dk.Dir} (h : NamesAt w b n f) (k : Dk.Nm) (i : Nat) (hk : k.length ≤ 9223372036854775807) (hn : n < 9223372036854775807) :
    ∃ w', (Instr.mapUpdate 97 (.map (some b)) (encStr k) (fileV (some i))).run Tryz.prog w = .ok () w' ∧ NamesAt w' b (n + 1) (Dk.upd f k (some i)) ∧ w.grownBy w' (some b) ∧ w'.heap.size = w.heap.size := by
  obtain ⟨D, h1, h2⟩ := h.ex
  obtain ⟨w', hrun, hown, ht⟩ := h1.store str_law Tryz.underlying97 (by simp only [maxLen]; omega) (str_key hk) (ptrE_file i)
  refine ⟨w', hrun, ⟨_, hown, fun x zd => ?_⟩, ht.grown, ?_⟩
  · by_cases e : x = k
    · subst e; rw [atKey_put_same h1.isMap (str_law.key (str_key hk)), Dk.upd_same]; rfl
    · rw [atKey_put_other (by simpa using e), h2, Dk.upd_other _ _ _ _ e]
  · obtain ⟨_, _, _, _, _, rfl⟩ := ht; simp [setBlock]
/-- delete(m, k) -/
theorem NamesAt.del {w : World} {b n : Nat} {f : Dk.Dir} (h : NamesAt w b n f) (k : Dk.Nm) (hk : k.length ≤ 9223372036854775807) (ty : TypeId) :
    ∃ w', (Builtin.delete_ #[97, 9] ty #[.map (some b), encStr k]).run Tryz.prog w = .ok (.tuple #[]) w' ∧ NamesAt w' b n (Dk.upd f k none) ∧ w.grownBy w' (some b) ∧ w'.heap.size = w.heap.size := by
  obtain ⟨D, h1, h2⟩ := h.ex
  obtain ⟨w', hrun, hown, ht⟩ := h1.drop str_law Tryz.underlying97 (str_key hk) ty
  refine ⟨w', hrun, ⟨_, hown, fun x zd => ?_⟩, ht.grown, ?_⟩
  · by_cases e : x = k
    · subst e; rw [atKey_del_same, Dk.upd_same]; rfl
    · rw [atKey_del_other (by simpa using e), h2, Dk.upd_other _ _ _ _ e]
  · obtain ⟨_, _, _, _, _, rfl⟩ := ht; simp [setBlock]
end Go.Proofs.YtcmgppacipdnaaaGreatDoor
namespace Go.Proofs.YtcmgppacipdnaaaGreatDoor
open Go.RowKit

theorem str_at (k : Dk.Nm) (i : Nat) (h : i < k.length) (W : World) : (Instr.index 9 (encStr k) (.int .i64 (i : Int))).run Tryz.prog W = .ok (.int .u8 (B (k.getD i 0))) W := by
  have hg : (⟨k.toArray⟩ : ByteArray)[i]? = some k[i] := by
    rw [getElem?_pos (⟨k.toArray⟩ : ByteArray) i (by simpa [ByteArray.size] using h)]
    rfl
  simp [Instr.index, run_underlying Tryz.underlying9, asIntOf, hg, B, List.getD, h]

theorem okByte_iff (c : UInt8) : Dk.okByte c = true ↔ (97 ≤ B c ∧ B c ≤ 122) ∨ (48 ≤ B c ∧ B c ≤ 57) ∨ B c = 46 ∨ B c = 45 ∨ B c = 95 := by
  unfold Dk.okByte B
  simp [UInt8.le_iff_toNat_le, ← UInt8.toNat_inj]
  omega
theorem all_take (k : Dk.Nm) (j : Nat) (hj : j < k.length) (h : (k.take j).all Dk.okByte = true) (hb : Dk.okByte (k.getD j 0) = true) : (k.take (j + 1)).all Dk.okByte = true := by
  rw [List.take_succ_eq_append_getElem hj, List.all_append, h]
  simpa [List.getD, hj] using hb
theorem not_all (k : Dk.Nm) (j : Nat) (hj : j < k.length) (hb : Dk.okByte (k.getD j 0) ≠ true) : Dk.valid k = false := by
  have : k.all Dk.okByte = false := by
    rw [List.all_eq_false]
    exact ⟨k[j], List.getElem_mem _, by simpa [List.getD, hj] using hb⟩
  simp [Dk.valid, this]

set_option maxRecDepth 100000 in
set_option maxHeartbeats 1000000 in
theorem dValid_any (k : Dk.Nm) (hk : k.length ≤ 9223372036854775807) (w : World) :
    Calls Tryz.prog 192 #[encStr k] w fun e w' => e = .returned (.bool (Dk.valid k)) ∧ w' = w := by
  obtain ⟨r, hr⟩ : ∃ r, r = Dk.valid k := ⟨_, rfl⟩
  rw [← hr]
  have HR := hide hr
  clear hr
  have hsz : (⟨k.toArray⟩ : ByteArray).size = k.length := by simp [ByteArray.size]
  by_cases h1 : 1 ≤ k.length
  · by_cases h2 : k.length ≤ 64
    · have d1 : decide ((k.length : Int) < 1) = false := by simp; omega
      have d2 : decide ((64 : Int) < (k.length : Int)) = false := by simp; omega
      have HV : Hid (k.all Dk.okByte = true → r = true) := hide (fun h => by rw [HR.out]; simp [Dk.valid, h, h1, h2])
      have HN : Hid (∀ j, j < k.length → Dk.okByte (k.getD j 0) ≠ true → r = false) := hide (fun j hj hb => by rw [HR.out]; exact not_all k j hj hb)
      clear HR
      go_enter Tryz.func192, Tryz.ntmps192
      go_wp2_with fail
      go_loopw [15] (fun i wr => ∃ j : Nat, j ≤ k.length ∧ i = .int .i64 j ∧ wr = w ∧ (k.take j).all Dk.okByte = true) (fun i _ => k.length - (intOf i).toNat)
      case atStart => exact ⟨0, Nat.zero_le _, rfl, rfl, by simp⟩
      case round =>
        obtain ⟨j, hj, rfl, rfl, hall⟩ := hrel
        have HALL := hide hall
        clear hall
        by_cases hlt : j < k.length
        · have hat := str_at k j hlt wr
          have HT := hide (all_take k j hlt HALL.out)
          have HN2 := hide (HN.out j hlt)
          have hi := okByte_iff (k.getD j 0)
          have hx0 : 0 ≤ B (k.getD j 0) := by unfold B; omega
          generalize k.getD j 0 = c at *
          have HI := hide hi
          clear hi
          generalize hx : B c = x at *
          clear hx HN HALL
          have HY : Hid ((97 ≤ x ∧ x ≤ 122) ∨ (48 ≤ x ∧ x ≤ 57) ∨ x = 46 ∨ x = 45 ∨ x = 95 → ∃ j' : Nat, j' ≤ k.length ∧ ((j' : Int) = (j : Int) + 1) ∧ (k.take j').all Dk.okByte = true) := hide (fun h => ⟨j + 1, by omega, by omega, HT.out (HI.out.2 h)⟩)
          have HZ : Hid (¬ ((97 ≤ x ∧ x ≤ 122) ∨ (48 ≤ x ∧ x ≤ 57) ∨ x = 46 ∨ x = 45 ∨ x = 95) → r = false) := hide (fun h => HN2.out (fun e => h (HI.out.1 e)))
          clear HT HN2 HI
          by_cases a1 : 97 ≤ x
          · by_cases a2 : x ≤ 122
            · go_wp2_with fail
              obtain ⟨j', e1, e2, e3⟩ := HY.out (by omega)
              exact ⟨⟨j', e1, by rw [e2], trivial, e3⟩, by simp [intOf]; omega⟩
            · have a3 : 48 ≤ x := by omega
              have a4 : ¬ x ≤ 57 := by omega
              have a5 : (x == 46) = false := by simp; omega
              have a6 : (x == 45) = false := by simp; omega
              have a7 : (x == 95) = false := by simp; omega
              go_wp2_with fail
              go_ret
              exact ⟨by rw [HZ.out (by omega)]; rfl, rfl⟩
          · by_cases a3 : 48 ≤ x
            · by_cases a4 : x ≤ 57
              · go_wp2_with fail
                obtain ⟨j', e1, e2, e3⟩ := HY.out (by omega)
                exact ⟨⟨j', e1, by rw [e2], trivial, e3⟩, by simp [intOf]; omega⟩
              · have a5 : (x == 46) = false := by simp; omega
                have a6 : (x == 45) = false := by simp; omega
                by_cases a7 : x = 95
                · subst a7
                  go_wp2_with fail
                  obtain ⟨j', e1, e2, e3⟩ := HY.out (by omega)
                  exact ⟨⟨j', e1, by rw [e2], trivial, e3⟩, by simp [intOf]; omega⟩
                · have a8 : (x == 95) = false := by simp; omega
                  go_wp2_with fail
                  go_ret
                  exact ⟨by rw [HZ.out (by omega)]; rfl, rfl⟩
            · have a7 : (x == 95) = false := by simp; omega
              by_cases a5 : x = 46
              · subst a5
                go_wp2_with fail
                obtain ⟨j', e1, e2, e3⟩ := HY.out (by omega)
                exact ⟨⟨j', e1, by rw [e2], trivial, e3⟩, by simp [intOf]; omega⟩
              · have a8 : (x == 46) = false := by simp; omega
                by_cases a6 : x = 45
                · subst a6
                  go_wp2_with fail
                  obtain ⟨j', e1, e2, e3⟩ := HY.out (by omega)
                  exact ⟨⟨j', e1, by rw [e2], trivial, e3⟩, by simp [intOf]; omega⟩
                · have a9 : (x == 45) = false := by simp; omega
                  go_wp2_with fail
                  go_ret
                  exact ⟨by rw [HZ.out (by omega)]; rfl, rfl⟩
        · obtain rfl : j = k.length := by omega
          go_wp2_with fail
          go_ret
          exact ⟨by rw [HV.out (by have := HALL.out; rwa [List.take_length] at this)]; rfl, rfl⟩
    · have e : r = false := by rw [HR.out]; simp [Dk.valid, h2]
      subst e
      have d1 : decide ((k.length : Int) < 1) = false := by simp; omega
      have d2 : decide ((64 : Int) < (k.length : Int)) = true := by simp; omega
      go_enter Tryz.func192, Tryz.ntmps192
      go_wp2_with fail
      go_ret
      exact ⟨rfl, rfl⟩
  · have e : r = false := by rw [HR.out]; simp [Dk.valid, h1]
    subst e
    have d1 : decide ((k.length : Int) < 1) = true := by simp; omega
    go_enter Tryz.func192, Tryz.ntmps192
    go_wp2_with fail
    go_ret
    exact ⟨rfl, rfl⟩
end Go.Proofs.YtcmgppacipdnaaaGreatDoor

namespace Go.Proofs.YtcmgppacipdnaaaGreatDoor
open Go.RowKit Go.Maps

theorem DiskL.drewN {w : World} {Bd nb db : Nat} {sv : Value} {ids : List Nat} {row : Nat → Value} {s : Dk.St} {S : Nat → Prop} (h : DiskL w Bd nb db sv ids row s S) (n : Nat) : DiskL (w.drewN n) Bd nb db sv ids row s S := h.kept fun _ _ _ => rfl

set_option maxRecDepth 100000 in
theorem find_any (Bd nb db : Nat) (sv : Value) (ids : List Nat) (row : Nat → Value) (s : Dk.St) (S : Nat → Prop) (p : Nat → Addr) (k : Dk.Nm) (w : World) (hs : SentsD w p) (h : DiskL w Bd nb db sv ids row s S) (hk : k.length ≤ 9223372036854775807) :
    Calls Tryz.prog 147 #[.pointer (some ⟨Bd, 0, none⟩), encStr k] w fun e w' => e = .returned (.tuple #[fileV (s.find k).2, errR p (s.find k).1]) ∧ ∃ q, w' = w.drewN q := by
  have c1 : w.cell? ⟨Bd, 1, none⟩ = some (.map (some nb)) := box_cell h.box 1
  have c7 : w.cell? ⟨Bd, 7, none⟩ = some (.bool s.down) := box_cell h.box 7
  have g9 := hs.c9
  have g6 := hs.c6
  have hl := h.names.look k hk
  obtain ⟨r, hr⟩ : ∃ r, r = s.find k := ⟨_, rfl⟩
  rw [← hr]
  unfold Dk.St.find at hr
  clear h hs
  cases hd : s.down with
  | true =>
    rw [hd] at c7 hr
    simp only [if_true] at hr
    subst hr
    go_enter Tryz.func147, Tryz.ntmps147
    go_wp2_with fail
    go_quiet (fail)
    go_wp2_with fail
    go_returns
    exact ⟨by simp [fileV, errR], nq, rfl⟩
  | false =>
    rw [hd] at c7 hr
    cases hf : s.names k with
    | none =>
      rw [hf] at hl hr
      simp at hr
      subst hr
      have hl2 : (Instr.lookup 97 (.map (some nb)) (encStr k) false).run Tryz.prog w = .ok (.pointer none) w := hl
      clear hl
      go_enter Tryz.func147, Tryz.ntmps147
      go_wp2_with fail
      go_quiet (fail)
      go_wp2_with fail
      go_returns
      exact ⟨by simp [fileV, errR], nq, rfl⟩
    | some i =>
      rw [hf] at hl hr
      simp at hr
      subst hr
      have hl2 : (Instr.lookup 97 (.map (some nb)) (encStr k) false).run Tryz.prog w = .ok (.pointer (some ⟨i, 0, none⟩)) w := hl
      clear hl
      go_enter Tryz.func147, Tryz.ntmps147
      go_wp2_with fail
      go_returns
      exact ⟨by simp [fileV, errR], 0, rfl⟩

theorem neq_nilD (a : Addr) (w : World) : (binOp .neq 46 (errV a) .nilIface).run Tryz.prog w = .ok (.bool true) w := by
  obtain ⟨ms, i, j, h1, h2, h3, h4, h5⟩ := es_facts
  have h : ∀ d : Nat, (Op.equalIn (d + 1) 46 (errV a) .nilIface).run Tryz.prog w = .ok false w := fun d => by simp [Op.equalIn, run_underlying h1, errV]
  simp only [binOp]
  simp [Op.equal, Op.maxDepth, h 9999]

set_option maxRecDepth 100000 in
theorem change_any (Bd nb db : Nat) (sv : Value) (ids : List Nat) (row : Nat → Value) (s : Dk.St) (S : Nat → Prop) (p : Nat → Addr) (k : Dk.Nm) (w : World) (hs : SentsD w p) (h : DiskL w Bd nb db sv ids row s S) (ha : -9223372036854775808 ≤ s.armed ∧ s.armed ≤ 9223372036854775807)
    (hk : k.length ≤ 9223372036854775807) (hsafe : ∀ w', Chg (fun b => b = Bd) w w' → SentsD w' p) (hB : Bd ≠ 7) :
    Calls Tryz.prog 145 #[.pointer (some ⟨Bd, 0, none⟩), encStr k] w fun e w' => e = .returned (.tuple #[fileV (s.begin.find k).2, errR p (s.begin.find k).1]) ∧ DiskL w' Bd nb db sv ids row s.begin S ∧ Chg (fun b => b = Bd) w w' ∧ w'.heap.size = w.heap.size := by
  have HBG := hide (begin_any Bd nb db sv ids row s S p w hs h ha hB)
  have HF := hide (fun w' (hs' : SentsD w' p) (h' : DiskL w' Bd nb db sv ids row s.begin S) => find_any Bd nb db sv ids row s.begin S p k w' hs' h' hk)
  have HSF := hide hsafe
  have hfd : s.begin.down = true → s.begin.find k = (some 9, none) := fun h => by simp [Dk.St.find, h]
  have HFD := hide hfd
  clear hs h hsafe hfd
  generalize s.begin = t at *
  obtain ⟨r, hr⟩ : ∃ r, r = t.find k := ⟨_, rfl⟩
  rw [← hr] at HF HFD ⊢
  clear hr
  cases hd : t.down with
  | true =>
    have HR := hide (HFD.out hd)
    have HDD := hide hd
    have hne := fun w' => neq_nilD (p 9) w'
    unfold errV at hne
    clear HFD hd
    go_enter Tryz.func145, Tryz.ntmps145
    go_wp2_with (first
      | (go_at_call 164; refine HBG.out.mono ?_; rintro e w1 ⟨rfl, hd1, hc1, hz1⟩; have HD1 := hide hd1; have HC1 := hide hc1; clear hd1 hc1; rw [HDD.out]; simp only [if_true, errR, errV])
      | fail)
    go_returns
    refine ⟨?_, HD1.out, HC1.out, hz1⟩
    rw [HR.out]
    simp [fileV, errR, errV]
  | false =>
    have HDD := hide hd
    clear hd
    go_enter Tryz.func145, Tryz.ntmps145
    go_wp2_with (first
      | (go_at_call 164; refine HBG.out.mono ?_; rintro e w1 ⟨rfl, hd1, hc1, hz1⟩; have HD1 := hide hd1; have HC1 := hide hc1; clear hd1 hc1; rw [HDD.out]; simp only [Bool.false_eq_true, if_false, errR])
      | (go_at_call 147; refine (HF.out w1 (HSF.out _ HC1.out) HD1.out).mono ?_; rintro e w2 ⟨rfl, q, rfl⟩)
      | fail)
    go_returns
    exact ⟨rfl, HD1.out.drewN q, ⟨HC1.out.os, HC1.out.tape, HC1.out.output, HC1.out.size, HC1.out.block⟩, hz1⟩
end Go.Proofs.YtcmgppacipdnaaaGreatDoor

namespace Go.Proofs.YtcmgppacipdnaaaGreatDoor
open Go.RowKit Go.Maps

theorem Own.take {w : World} {base n len cap : Nat} {A : Option Addr} {l : List UInt8} (h : Own w base (.slice A len cap) l) (hn : n ≤ l.length) : Own w base (.slice A n cap) (l.take n) := by
  obtain ⟨_, h2⟩ := h
  have hlen : (l.take n).length = n := by simp; omega
  refine ⟨by simp [cells_len], ?_⟩
  rcases h2 with ⟨e, h0⟩ | ⟨g, cp, cur, e, hb, hh, hc, hm, hs, ht⟩
  · injection e with e1 e2 e3
    subst e1 e2 e3
    obtain rfl : n = 0 := by omega
    exact .inl ⟨rfl, by simp⟩
  · injection e with e1 e2 e3
    subst e1 e3
    refine .inr ⟨g, cap, cur, by rw [hlen], hb, hh, by omega, hm, hs, ?_⟩
    have h3 : cells (l.take n) = (cells l).take n := by simp [cells, List.map_take]
    rw [h3, ← ht, hlen, List.take_take]
    congr 1
    omega
theorem ownBlock_lt {w : World} {v : Value} {l : List UInt8} (h : Own w 0 v l) {g : Nat} (hg : v.ownBlock = some g) : ∃ cur, w.heap[g]? = some (.cells cur 5 (0, 0)) := by
  rcases h.2 with ⟨e, _⟩ | ⟨g', cap, cur, e, _, hh, _⟩
  · rw [e] at hg; cases hg
  · rw [e] at hg; injection hg with hg; subst hg; exact ⟨cur, hh⟩
theorem rowBlock_at {w : World} {e : TypeId} {n sz : Nat} {v : Value} {xs : List Value} (h : w.ownsRow 0 e sz v n xs) {g : Nat} (hg : v.ownBlock = some g) : ∃ cur, w.heap[g]? = some (.cells cur e (0, 0)) := by
  rcases h.2 with ⟨e, _⟩ | ⟨g', cap, cur, e, _, hh, _⟩
  · rw [e] at hg; cases hg
  · rw [e] at hg; injection hg with hg; subst hg; exact ⟨cur, hh⟩
theorem types_ne {w : World} {i j : Nat} {c c' : Array Value} {t t' : TypeId} (h : w.heap[i]? = some (.cells c t (0, 0))) (h' : w.heap[j]? = some (.cells c' t' (0, 0))) (ht : t ≠ t') : i ≠ j := by
  intro e
  subst e
  rw [h] at h'
  injection h' with h'
  injection h' with _ h' _
  exact ht h'
theorem map_ne {w : World} {i b n : Nat} {c : Array Value} {t : TypeId} {f : Dk.Dir} (h : NamesAt w b n f) (h' : w.heap[i]? = some (.cells c t (0, 0))) : b ≠ i := by
  obtain ⟨D, ⟨es, clock, h1, _⟩, _⟩ := h.ex
  intro e
  subst e
  rw [h1] at h'
  cases h'

theorem DiskL.file_ {w w' : World} {Bd nb db : Nat} {sv : Value} {ids : List Nat} {row : Nat → Value} {s : Dk.St} {S : Nat → Prop} (h : DiskL w Bd nb db sv ids row s S) (i : Nat) (hi : i ∈ ids) (v' : Value) (f' : Dk.File) (hf : FileAt w' i v' f')
    (hk : ∀ k, k < w.heap.size → k ≠ i → some k ≠ (row i).ownBlock → w'.heap[k]? = w.heap[k]?) (hv : ∀ g, v'.ownBlock = some g → (row i).ownBlock = some g ∨ w.heap.size ≤ g) (_hsz : w.heap.size ≤ w'.heap.size) :
    DiskL w' Bd nb db sv ids (fun j => if j = i then v' else row j) (s.setFile i f') (Up S w w') := by
  have lt : ∀ {k : Nat} {o : Obj}, w.heap[k]? = some o → k < w.heap.size := fun h => (Array.getElem?_eq_some_iff.1 h).1
  have lt' : ∀ {k : Nat} {o : Obj}, w'.heap[k]? = some o → k < w'.heap.size := fun h => (Array.getElem?_eq_some_iff.1 h).1
  have hfi := h.file i hi
  have key : ∀ k o, w.heap[k]? = some o → k ≠ i → (∀ g, (row i).ownBlock = some g → k ≠ g) → w'.heap[k]? = w.heap[k]? := fun k o hk1 h1 h2 => hk k (lt hk1) h1 fun e => h2 k e.symm rfl
  have nrow : ∀ {k : Nat} {c : Array Value} {t : TypeId}, w.heap[k]? = some (.cells c t (0, 0)) → t ≠ 5 → ∀ g, (row i).ownBlock = some g → k ≠ g := fun h1 ht g hg => by
    obtain ⟨cur, h2⟩ := ownBlock_lt hfi.row hg
    exact types_ne h1 h2 ht
  have kcell : ∀ {k : Nat} {c : Array Value} {t : TypeId}, w.heap[k]? = some (.cells c t (0, 0)) → t ≠ 5 → t ≠ 110 → w'.heap[k]? = w.heap[k]? := fun h1 h2 h3 => key _ _ h1 (types_ne h1 hfi.box h3) (nrow h1 h2)
  have kmap : ∀ {b n : Nat} {f : Dk.Dir}, NamesAt w b n f → NamesAt w' b n f := fun h1 => by
    refine h1.same ?_
    refine hk _ h1.lt (map_ne h1 hfi.box) fun e => ?_
    obtain ⟨cur, h2⟩ := ownBlock_lt hfi.row e.symm
    exact map_ne h1 h2 rfl
  obtain ⟨m, hd, hm⟩ := h.dur
  have kfile : ∀ j ∈ ids, j ≠ i → FileAt w' j (row j) (s.files j) := fun j hj hji => by
    have hfj := h.file j hj
    refine hfj.same (key _ _ hfj.box hji (nrow hfj.box (by decide))) fun g hg => ?_
    obtain ⟨cur, h2⟩ := ownBlock_lt hfj.row hg
    exact key _ _ h2 (types_ne h2 hfi.box (by decide)) fun g' hg' e => by subst e; exact h.apart i hi j hj (Ne.symm hji) g hg' hg
  refine { box := (kcell h.box (by decide) (by decide)).trans h.box, names := kmap h.names, dur := ⟨m, kmap hd, hm⟩, ne := h.ne, since := ownsRow_same h.since fun g hg => ?_, nodup := h.nodup, file := fun j hj => ?_, apart := fun a ha b hb hab g hg => ?_, nref := h.nref, dref := h.dref, sref := h.sref, calls := h.calls, mBd := .inl h.mBd, mnb := .inl h.mnb, mdb := .inl h.mdb, msv := fun g hg => .inl (h.msv g hg), mid := fun j hj => .inl (h.mid j hj), mrow := fun j hj g hg => ?_ }
  · obtain ⟨cur, h2⟩ := rowBlock_at h.since hg
    exact kcell h2 (by decide) (by decide)
  · by_cases e : j = i
    · subst e; simp only [if_true, Dk.setFile_same]; exact hf
    · simp only [if_neg e, Dk.setFile_other _ _ _ _ e]; exact kfile j hj e
  · have hlow : ∀ c ∈ ids, c ≠ i → ∀ g, (row c).ownBlock = some g → g < w.heap.size := fun c hc _ g hg => ((h.file c hc).row.lt g hg).2
    by_cases ea : a = i
    · subst ea
      simp only [if_true] at hg
      have eb : b ≠ a := Ne.symm hab
      simp only [if_neg eb]
      intro hg2
      rcases hv g hg with h1 | h1
      · exact h.apart a hi b hb hab g h1 hg2
      · have := hlow b hb eb g hg2; omega
    · simp only [if_neg ea] at hg
      by_cases eb : b = i
      · subst eb
        simp only [if_true]
        intro hg2
        rcases hv g hg2 with h1 | h1
        · exact h.apart a ha b hi hab g hg h1
        · have := hlow a ha ea g hg; omega
      · simp only [if_neg eb]
        exact h.apart a ha b hb hab g hg
  · by_cases e : j = i
    · subst e
      simp only [if_true] at hg
      rcases hv g hg with h1 | h1
      · exact .inl (h.mrow j hj g h1)
      · obtain ⟨cur, h2⟩ := ownBlock_lt hf.row hg
        exact .inr ⟨h1, lt' h2⟩
    · simp only [if_neg e] at hg
      exact .inl (h.mrow j hj g hg)
theorem up_same {S : Nat → Prop} {w w' : World} (h : w'.heap.size = w.heap.size) : ∀ k, Up S w w' k → S k := fun k hk => by
  rcases hk with hk | hk
  · exact hk
  · omega

set_option maxRecDepth 100000 in
theorem keep_any (i : Nat) (v : Value) (f : Dk.File) (n : Nat) (w : World) (h : FileAt w i v f) (hn : n ≤ f.bytes.length) :
    Calls Tryz.prog 70 #[.pointer (some ⟨i, 0, none⟩), .int .i64 (n : Int)] w fun e w' => e = .returned (.tuple #[]) ∧ ∃ v', FileAt w' i v' (f.keep n) ∧ (∀ g, v'.ownBlock = some g → v.ownBlock = some g) ∧ Chg (fun k => k = i) w w' ∧ w'.heap.size = w.heap.size := by
  obtain ⟨A, c, rfl, ha⟩ := h.row.arg
  have c1 : w.cell? ⟨i, 1, none⟩ = some (.slice A f.bytes.length c) := box_cell h.box 1
  have c2 : w.cell? ⟨i, 2, none⟩ = some (.int .i64 (f.synced : Int)) := box_cell h.box 2
  have f1 := box_free h.box 1
  have f2 := box_free h.box 2
  have hle := ha.le
  have hmx := ha.max
  have hA := ha.nil
  have HH := hide h
  clear h ha
  generalize hfl : f.bytes.length = L at *
  go_enter Tryz.func70, Tryz.ntmps70
  go_wp2_with fail
  go_end0
  have hrow := HH.out.row
  have hb1 := heap_setCell_same w i 1 _ _ (.slice A n c) HH.out.box
  have hb2 := heap_setCell_same _ i 2 _ _ (.int .i64 (n : Int)) hb1
  refine ⟨rfl, .slice A n c, ⟨by rw [hb2]; rfl, ?_, by simp [Dk.File.keep]; omega⟩, fun g hg => (by cases A with | none => cases hg | some a => exact hg), (Chg.setCell (S := fun k => k = i) w i 1 _ rfl).then (Chg.setCell (S := fun k => k = i) _ i 2 _ rfl), by simp⟩
  refine ownsRow_same (hrow.take (by rw [hfl]; exact hn)) fun g hg => ?_
  have hg2 : (Value.slice A L c).ownBlock = some g := by cases A with | none => cases hg | some a => exact hg
  obtain ⟨cur, h2⟩ := ownBlock_lt hrow hg2
  have hne : g ≠ i := types_ne h2 HH.out.box (by decide)
  rw [Below.heap_setCell _ _ _ _ (by exact hne), Below.heap_setCell _ _ _ _ (by exact hne)]
end Go.Proofs.YtcmgppacipdnaaaGreatDoor

namespace Go.Proofs.YtcmgppacipdnaaaGreatDoor
open Go.RowKit Go.Maps

/-- None of S's blocks is an error's. -/
structure Safe (S : Nat → Prop) (p : Nat → Addr) : Prop where
  g : ∀ j, 4 ≤ j → j ≤ 9 → ¬ S (gs.getD j 0)
  b : ∀ j, 4 ≤ j → j ≤ 9 → ¬ S (p j).block
theorem SentsOn.chg {S : Nat → Prop} {w w' : World} {p : Nat → Addr} (h : SentsD w p) (hS : Safe S p) (hc : Chg S w w') : SentsD w' p :=
  ⟨fun j hj => hc.cell (h.cell j hj) (hS.g j hj.1 hj.2), fun j hj => by
    obtain ⟨h1, c, t, h2⟩ := h.blk j hj
    exact ⟨Nat.lt_of_lt_of_le h1 hc.size, c, t, (hc.block _ h1 (hS.b j hj.1 hj.2)).trans h2⟩, h.ne⟩
/-- What a call leaves. -/
structure Next (w : World) (Bd : Nat) (S : Nat → Prop) (s' : Dk.St) (w' : World) : Prop where
  disk : IsDisk w' Bd s' (Up S w w')
  chg : Chg S w w'
/-- Numbers that stay within 64 bits. -/
structure Dk.Fit (s : Dk.St) : Prop where
  armed : -9223372036854775808 ≤ s.armed ∧ s.armed ≤ 9223372036854775807
  calls : 0 ≤ s.calls ∧ s.calls ≤ 1099511627776
  used : -1125899906842624 ≤ s.used ∧ s.used ≤ 1125899906842624
  room : 0 ≤ s.room ∧ s.room ≤ 1125899906842624
  file : ∀ i, (s.files i).bytes.length ≤ 1000000000
theorem Dk.Fit.begin {s : Dk.St} (h : Dk.Fit s) : Dk.Fit s.begin := by
  unfold Dk.St.begin
  split
  · exact ⟨by have := h.armed; show _ ≤ s.armed - 1 ∧ s.armed - 1 ≤ _; omega, h.calls, h.used, h.room, h.file⟩
  · exact h
theorem find_cases (t : Dk.St) (k : Dk.Nm) : (∃ j, t.find k = (some j, none)) ∨ ∃ i, t.find k = (none, some i) ∧ t.names k = some i := by
  unfold Dk.St.find
  split
  · exact .inl ⟨9, rfl⟩
  · cases h : t.names k with
    | none => exact .inl ⟨6, rfl⟩
    | some i => exact .inr ⟨i, rfl, rfl⟩

set_option maxRecDepth 100000 in
theorem sync_any (Bd : Nat) (s : Dk.St) (S : Nat → Prop) (p : Nat → Addr) (k : Dk.Nm) (w : World) (hs : SentsD w p) (hS : Safe S p) (h : IsDisk w Bd s S) (hft : Dk.Fit s) (hk : k.length ≤ 9223372036854775807) :
    Calls Tryz.prog 110 #[.pointer (some ⟨Bd, 0, none⟩), encStr k] w fun e w' => e = .returned (errR p (s.sync k).1) ∧ Next w Bd S (s.sync k).2 w' := by
  obtain ⟨nb, db, sv, ids, row, h⟩ := h
  have hBS : ∀ b, b = Bd → S b := fun b e => e ▸ h.mBd
  have HCH := hide (change_any Bd nb db sv ids row s S p k w hs h hft.armed hk (fun w' hc => hs.chg hS (hc.mono hBS)) (fun e => hS.g 9 (by omega) (by omega) (show S 7 from e ▸ h.mBd)))
  have hft' := hft.begin
  obtain ⟨r, hr⟩ : ∃ r, r = s.sync k := ⟨_, rfl⟩
  rw [← hr]
  unfold Dk.St.sync at hr
  have HBS := hide hBS
  clear hs h hft hBS
  generalize s.begin = t at *
  rcases find_cases t k with ⟨j, hf⟩ | ⟨i, hf, hnm⟩
  · rw [hf] at hr HCH
    simp only at hr HCH
    subst hr
    have hne := fun w' => neq_nilD (p j) w'
    unfold errV at hne
    have HFT := hide hft'
    clear hft'
    go_enter Tryz.func110, Tryz.ntmps110
    go_wp2_with (first
      | (go_at_call 145; refine HCH.out.mono ?_; rintro e w1 ⟨rfl, hd1, hc1, hz1⟩; have HD1 := hide hd1; have HC1 := hide hc1; clear hd1 hc1; simp only [errR, errV, fileV])
      | fail)
    go_ret
    exact ⟨rfl, ⟨_, _, _, _, _, HD1.out.mono up_self⟩, HC1.out.mono HBS.out⟩
  · rw [hf] at hr HCH
    simp only at hr HCH
    subst hr
    have HFT := hide hft'
    have HNM := hide hnm
    clear hft' hnm hf
    go_enter Tryz.func110, Tryz.ntmps110
    go_wp2_with (first
      | (go_at_call 145; refine HCH.out.mono ?_; rintro e w1 ⟨rfl, hd1, hc1, hz1⟩; have HD1 := hide hd1; have HC1 := hide hc1; obtain ⟨hi, -, -⟩ := hd1.nref k i HNM.out; have hfi := hd1.file i hi; have HFI := hide hfi; obtain ⟨A, c, hrv, -⟩ := hfi.row.arg; have hc1' : w1.cell? ⟨i, 1, none⟩ = some (row i) := box_cell hfi.box 1; rw [hrv] at hc1'; have HKP := hide (keep_any i (row i) (t.files i) (t.files i).bytes.length w1 hfi (Nat.le_refl _)); have HI := hide hi; clear hd1 hc1 hfi hrv hi; simp only [errR, fileV])
      | (go_at_call 70; refine HKP.out.mono ?_; rintro e w2 ⟨rfl, v', hf2, hv2, hc2, hz2⟩; have HD2 := hide (HD1.out.file_ i HI.out v' _ hf2 (fun b hb hbi _ => hc2.block b hb hbi) (fun g hg => .inl (hv2 g hg)) (by omega)); have c5 : w2.cell? ⟨Bd, 5, none⟩ = some (.int .i64 t.calls) := box_cell HD2.out.box 5; have f5 := box_free HD2.out.box 5; have HC2 := hide hc2; have HZ := hide hz2; have hw5 : IntKind.i64.wrap (t.calls + 1) = t.calls + 1 := IntWalk.i64_in _ (by have := HFT.out.calls; omega); clear hf2 hv2 hc2 hz2)
      | fail)
    go_ret
    refine ⟨rfl, ⟨_, _, _, _, _, (HD2.out.set 5 (.int .i64 (t.calls + 1)) { t.setFile i ((t.files i).keep (t.files i).bytes.length) with calls := t.calls + 1 } rfl rfl rfl rfl rfl (by show t.calls ≤ t.calls + 1; omega)).mono fun b hb => .inl (up_same HZ.out b hb)⟩, ?_⟩
    exact ((HC1.out.mono HBS.out).then (HC2.out.mono fun b e => e ▸ HD1.out.mid i HI.out)).then (Chg.setCell _ _ _ _ HD1.out.mBd)

def LenIs (b : List UInt8) (n : Nat) : Prop := b.length = n
theorem LenIs.out {b : List UInt8} {n : Nat} (h : LenIs b n) : b.length = n := h
theorem Arg.chg {S : Nat → Prop} {w w' : World} {A : Option Addr} {c : Nat} {l : List UInt8} (h : Arg w A c l) (hc : Chg S w w') (hA : ∀ b o, A = some ⟨b, o, none⟩ → l ≠ [] → ¬ S b) : Arg w' A c l := by
  refine ⟨h.le, h.max, h.nil, ?_⟩
  rcases h.reads with e | ⟨b, off, e, hb, hr⟩
  · exact .inl e
  · by_cases hl : l = []
    · exact .inl hl
    · exact .inr ⟨b, off, e, Nat.lt_of_lt_of_le hb hc.size, fun k hk => hc.cell (hr k hk) (hA b off e hl)⟩

set_option maxRecDepth 100000 in
set_option maxHeartbeats 1000000 in
theorem append_any (Bd : Nat) (s : Dk.St) (S : Nat → Prop) (p : Nat → Addr) (k : Dk.Nm) (A : Option Addr) (cb nb_ : Nat) (b : List UInt8) (w : World) (hs : SentsD w p) (hS : Safe S p) (h : IsDisk w Bd s S) (hft : Dk.Fit s) (hk : k.length ≤ 9223372036854775807)
    (hb : Arg w A cb b) (hn : b.length = nb_) (hbl : nb_ ≤ 1000000) (hbS : ∀ x o, A = some ⟨x, o, none⟩ → b ≠ [] → ¬ S x) :
    Calls Tryz.prog 108 #[.pointer (some ⟨Bd, 0, none⟩), encStr k, .slice A nb_ cb] w fun e w' => e = .returned (errR p (s.append k b).1) ∧ Next w Bd S (s.append k b).2 w' := by
  obtain ⟨nb, db, sv, ids, row, h⟩ := h
  have hBS : ∀ b, b = Bd → S b := fun b e => e ▸ h.mBd
  have HCH := hide (change_any Bd nb db sv ids row s S p k w hs h hft.armed hk (fun w' hc => hs.chg hS (hc.mono hBS)) (fun e => hS.g 9 (by omega) (by omega) (show S 7 from e ▸ h.mBd)))
  have hft' := hft.begin
  obtain ⟨r, hr⟩ : ∃ r, r = s.append k b := ⟨_, rfl⟩
  rw [← hr]
  unfold Dk.St.append at hr
  have HBS := hide hBS
  have HSE := hide hs
  have HB := hide hb
  have HN := hide hn
  have HNL : LenIs b nb_ := hn
  have HBX := hide hbS
  clear hs h hft hBS hb hn hbS
  generalize s.begin = t at *
  rcases find_cases t k with ⟨j, hf⟩ | ⟨i, hf, hnm⟩
  · rw [hf] at hr HCH
    simp only at hr HCH
    subst hr
    have hne := fun w' => neq_nilD (p j) w'
    unfold errV at hne
    have HFT := hide hft'
    clear hft'
    go_enter Tryz.func108, Tryz.ntmps108
    go_wp2_with (first
      | (go_at_call 145; refine HCH.out.mono ?_; rintro e w1 ⟨rfl, hd1, hc1, hz1⟩; have HD1 := hide hd1; have HC1 := hide hc1; clear hd1 hc1; simp only [errR, errV, fileV])
      | fail)
    go_ret
    exact ⟨rfl, ⟨_, _, _, _, _, HD1.out.mono up_self⟩, HC1.out.mono HBS.out⟩
  · rw [hf] at hr HCH
    simp only at hr HCH
    have HFT := hide hft'
    have HNM := hide hnm
    have hu := hft'.used
    have hro := hft'.room
    have hw1 : IntKind.i64.wrap (t.room - t.used) = t.room - t.used := IntWalk.i64_in _ (by omega)
    have hw2 : IntKind.i64.wrap (t.calls + 1) = t.calls + 1 := IntWalk.i64_in _ (by have := HFT.out.calls; omega)
    have hw3 : IntKind.i64.wrap (t.used + (nb_ : Int)) = t.used + (nb_ : Int) := IntWalk.i64_in _ (by omega)
    clear hft' hnm hf
    by_cases hfull : t.room - t.used < (nb_ : Int)
    · rw [if_pos (by rw [HN.out]; exact hfull)] at hr
      subst hr
      have d1 : decide (t.room - t.used < (nb_ : Int)) = true := by simp [hfull]
      go_enter Tryz.func108, Tryz.ntmps108
      go_wp2_with (first
        | (go_at_call 145; refine HCH.out.mono ?_; rintro e w1 ⟨rfl, hd1, hc1, hz1⟩; have HD1 := hide hd1; have HC1 := hide hc1; have e0 : w1.cell? ⟨Bd, 0, none⟩ = some (.int .i64 t.room) := box_cell hd1.box 0; have e4 : w1.cell? ⟨Bd, 4, none⟩ = some (.int .i64 t.used) := box_cell hd1.box 4; have g8 := (HSE.out.chg hS (hc1.mono HBS.out)).c8; clear hd1 hc1; simp only [errR, fileV])
        | fail)
      go_quiet (fail)
      go_wp2_with fail
      go_ret
      exact ⟨rfl, ⟨_, _, _, _, _, (HD1.out.drewN nq).mono up_self⟩, HC1.out.mono HBS.out |>.then ⟨rfl, rfl, rfl, Nat.le_refl _, fun _ _ _ => rfl⟩⟩
    · rw [if_neg (by rw [HN.out]; exact hfull)] at hr
      subst hr
      have d1 : decide (t.room - t.used < (nb_ : Int)) = false := by simp; omega
      go_enter Tryz.func108, Tryz.ntmps108
      go_wp2_with (first
        | (go_at_call 145; refine HCH.out.mono ?_; rintro e w1 ⟨rfl, hd1, hc1, hz1⟩; have HD1 := hide hd1; have HC1 := hide hc1; have e0 : w1.cell? ⟨Bd, 0, none⟩ = some (.int .i64 t.room) := box_cell hd1.box 0; have e4 : w1.cell? ⟨Bd, 4, none⟩ = some (.int .i64 t.used) := box_cell hd1.box 4; clear hd1 hc1; simp only [errR, fileV])
        | fail)
      go_quiet (fail)
      obtain ⟨hi, -, -⟩ := HD1.out.nref k i HNM.out
      have hfi := HD1.out.file i hi
      have HFI := hide hfi
      have HI := hide hi
      obtain ⟨A1, c1, hrv, -⟩ := hfi.row.arg
      have hc1' : w1.cell? ⟨i, 1, none⟩ = some (row i) := box_cell hfi.box 1
      rw [hrv] at hc1'
      have HRV := hide hrv
      have HBA := hide (HB.out.chg (HC1.out.mono HBS.out) HBX.out)
      have hcq : (w1.drewN nq).cell? ⟨i, 1, none⟩ = some (.slice A1 (t.files i).bytes.length c1) := hc1'
      have hrow := hfi.row
      rw [hrv] at hrow
      have HRO : Hid (Own (w1.drewN nq) 0 (.slice A1 (t.files i).bytes.length c1) (t.files i).bytes) := hide hrow
      have HRD : Hid (Reads (w1.drewN nq) A b) := hide HBA.out.reads
      have HDQ := hide (HD1.out.drewN nq)
      have HFQ : Hid (FileAt (w1.drewN nq) i (row i) (t.files i)) := hide (hfi.same rfl fun _ _ => rfl)
      have HCQ : Hid (Chg (fun b => b = Bd) w (w1.drewN nq)) := hide ⟨HC1.out.os, HC1.out.tape, HC1.out.output, HC1.out.size, HC1.out.block⟩
      have HZQ : Hid ((w1.drewN nq).heap.size = w.heap.size) := hide hz1
      clear hfi hi hrv hc1' hrow e0 e4 HD1 HC1 hz1 HFI HBA
      generalize w1.drewN nq = wq at *
      have hci : wq.cell? ⟨i, 1, none⟩ = some (.slice A1 (t.files i).bytes.length c1) := hcq
      have hnb : some i ≠ (Value.slice A1 (t.files i).bytes.length c1).ownBlock := fun e => by
        obtain ⟨cur, h2⟩ := ownBlock_lt HRO.out e.symm
        exact types_ne HFQ.out.box h2 (by decide) rfl
      have HNB := hide hnb
      have hfi := box_free HFQ.out.box 1
      have hnd : some Bd ≠ (Value.slice A1 (t.files i).bytes.length c1).ownBlock := fun e => by
        obtain ⟨cur, h2⟩ := ownBlock_lt HRO.out e.symm
        exact types_ne HDQ.out.box h2 (by decide) rfl
      have HND := hide hnd
      have y4 : wq.cell? ⟨Bd, 4, none⟩ = some (.int .i64 t.used) := box_cell HDQ.out.box 4
      have y5 : wq.cell? ⟨Bd, 5, none⟩ = some (.int .i64 t.calls) := box_cell HDQ.out.box 5
      have z4 := box_free HDQ.out.box 4
      have z5 := box_free HDQ.out.box 5
      have hlb : Bd < wq.heap.size := World.block_lt_of_cell? wq _ y4
      have hli : i < wq.heap.size := World.block_lt_of_cell? wq _ hci
      clear hcq hnb hnd
      go_wp2_with (first
        | (at_builtin; refine wpList_app rfl (.tmp 35) (.tmp 36) rfl 0 (.slice A1 (t.files i).bytes.length c1) (t.files i).bytes b rfl HRO.out A nb_ cb rfl HN.out HRD.out (by have := HFT.out.file i; omega) (Nat.zero_le _) ?_; intro v' w2 hown2 hg2 hv2; have HOW := hide hown2; have HG2 := hide hg2; have HV2 := hide hv2; obtain ⟨A', c', rfl, -⟩ := hown2.arg; rw [List.length_append, HN.out] at *; have hci2 := hg2.cell hci HNB.out; have hfi2 : w2.frozen? ⟨i, 1, none⟩ = false := (World.frozen?_of_block (hg2.block i hli HNB.out)).trans hfi; have e4 := hg2.cell y4 HND.out; have e5 := hg2.cell y5 HND.out; have x4 : w2.frozen? ⟨Bd, 4, none⟩ = false := (World.frozen?_of_block (hg2.block Bd hlb HND.out)).trans z4; have x5 : w2.frozen? ⟨Bd, 5, none⟩ = false := (World.frozen?_of_block (hg2.block Bd hlb HND.out)).trans z5; clear hown2 hg2 hv2 hci hfi y4 y5 z4 z5)
        | fail)
      go_ret
      have hbx2 : w2.heap[i]? = some (.cells #[.int .i64 (t.files i).born, row i, .int .i64 ((t.files i).synced : Int)] 110 (0, 0)) := (HG2.out.block i hli HNB.out).trans HFQ.out.box
      have hbx3 := heap_setCell_same w2 i 1 _ _ (.slice A' ((t.files i).bytes.length + nb_) c') hbx2
      have hw3 : FileAt (w2.setCell ⟨i, 1, none⟩ (.slice A' ((t.files i).bytes.length + nb_) c')) i (.slice A' ((t.files i).bytes.length + nb_) c') { t.files i with bytes := (t.files i).bytes ++ b } := by
        refine ⟨hbx3, ownsRow_same HOW.out fun g hg => ?_, by have := HFQ.out.sync; simp; omega⟩
        obtain ⟨cur, h2⟩ := ownBlock_lt HOW.out hg
        exact Below.heap_setCell _ _ _ _ (types_ne h2 hbx2 (by decide))
      have hd3 := HDQ.out.file_ i HI.out _ _ hw3 (fun x hx hxi hxr => by
        rw [Below.heap_setCell _ _ _ _ (by exact hxi)]
        exact HG2.out.block x hx (by rw [HRV.out] at hxr; exact hxr)) (fun g hg => by
        rcases HV2.out with e | e
        · rw [e] at hg; exact .inl (by rw [HRV.out]; exact hg)
        · rw [e] at hg; injection hg with hg; exact .inr (by omega)) (by rw [World.size_setCell]; exact HG2.out.size)
      have hc3 : Chg S wq (w2.setCell ⟨i, 1, none⟩ (.slice A' ((t.files i).bytes.length + nb_) c')) := (Chg.of_grown HG2.out fun g hg => HDQ.out.mrow i HI.out g (by rw [HRV.out]; exact hg)).then (Chg.setCell _ _ _ _ (HDQ.out.mid i HI.out))
      generalize w2.setCell ⟨i, 1, none⟩ (.slice A' ((t.files i).bytes.length + nb_) c') = w3 at *
      have hd4 := (hd3.set 4 (.int .i64 (t.used + nb_)) { t.setFile i { t.files i with bytes := (t.files i).bytes ++ b } with used := t.used + nb_ } rfl rfl rfl rfl rfl (Int.le_refl _)).set 5 (.int .i64 (t.calls + 1)) { t.setFile i { t.files i with bytes := (t.files i).bytes ++ b } with used := t.used + nb_, calls := t.calls + 1 } rfl rfl rfl rfl rfl (by show t.calls ≤ t.calls + 1; omega)
      have hup : ∀ x, Up S wq w3 x → Up S w ((w3.setCell ⟨Bd, 4, none⟩ (.int .i64 (t.used + nb_))).setCell ⟨Bd, 5, none⟩ (.int .i64 (t.calls + 1))) x := fun x hx => by
        rcases hx with hx | hx
        · exact .inl hx
        · refine .inr ?_
          have := HZQ.out
          simp only [World.size_setCell]
          omega
      rw [HNL.out]
      exact ⟨rfl, ⟨_, _, _, _, _, hd4.mono hup⟩, ((((HCQ.out.mono HBS.out).then hc3).then (Chg.setCell _ _ _ _ HDQ.out.mBd)).then (Chg.setCell _ _ _ _ HDQ.out.mBd))⟩
end Go.Proofs.YtcmgppacipdnaaaGreatDoor
