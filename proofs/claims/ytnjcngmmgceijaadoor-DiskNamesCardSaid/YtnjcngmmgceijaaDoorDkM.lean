/-
  A disk's maps of names: looked up, stored into, struck from, at the operation; and whether a name may be.
-/
import Derived.Test.YtnjcngmmgceijaaDoorDkB
import Derived.Maps.OwnIn
import Derived.Deep.QuietTactic
import Derived.BigQuiet
namespace Go.Proofs.YtnjcngmmgceijaaDoor
open Go.RowKit Go.Maps Go.ChangeMaps Go.MapKept

theorem zero_file (w : World) : (zeroValue 63).run Tryd.prog w = .ok (.pointer none) w := by kernel_rfl
theorem str_key {k : Dk.Nm} (hk : k.length ≤ 9223372036854775807) : keyOf Tryd.prog 9 (encStr k) = some (.string k) := by
  have := Go.WideMaps.keyOf_string_mk (P := Tryd.prog) Tryd.underlying9 (s := ⟨k.toArray⟩) (by simpa [maxLen, ByteArray.size] using hk)
  simpa using this
/-- m[k] -/
theorem NamesAt.look {w : World} {b n : Nat} {f : Dk.Dir} (h : NamesAt w b n f) (k : Dk.Nm) (hk : k.length ≤ 9223372036854775807) :
    (Instr.lookup 55 (.map (some b)) (encStr k) false).run Tryd.prog w = .ok (fileV (f k)) w := by
  obtain ⟨D, h1, h2⟩ := h.ex
  obtain ⟨v, ps, hrun, hv⟩ := h1.lookup str_law Tryd.underlying55 (zero_file w) ptrE_nil (str_key hk)
  rw [h2] at hv
  rw [hrun, ptrE_inv hv]
/-- m[k] = file i -/
theorem NamesAt.put {w : World} {b n : Nat} {f : Dk.Dir} (h : NamesAt w b n f) (k : Dk.Nm) (i : Nat) (hk : k.length ≤ 9223372036854775807) (hn : n < 9223372036854775807) :
    ∃ w', (Instr.mapUpdate 55 (.map (some b)) (encStr k) (fileV (some i))).run Tryd.prog w = .ok () w' ∧ NamesAt w' b (n + 1) (Dk.upd f k (some i)) ∧ w.grownBy w' (some b) ∧ w'.heap.size = w.heap.size := by
  obtain ⟨D, h1, h2⟩ := h.ex
  obtain ⟨w', hrun, hown, ht⟩ := h1.store str_law Tryd.underlying55 (by simp only [maxLen]; omega) (str_key hk) (ptrE_file i)
  refine ⟨w', hrun, ⟨_, hown, fun x zd => ?_⟩, ht.grown, ?_⟩
  · by_cases e : x = k
    · subst e; rw [atKey_put_same h1.isMap (str_law.key (str_key hk)), Dk.upd_same]; rfl
    · rw [atKey_put_other (by simpa using e), h2, Dk.upd_other _ _ _ _ e]
  · obtain ⟨_, _, _, _, _, rfl⟩ := ht; simp [setBlock]
/-- delete(m, k) -/
theorem NamesAt.del {w : World} {b n : Nat} {f : Dk.Dir} (h : NamesAt w b n f) (k : Dk.Nm) (hk : k.length ≤ 9223372036854775807) (ty : TypeId) :
    ∃ w', (Builtin.delete_ #[55, 9] ty #[.map (some b), encStr k]).run Tryd.prog w = .ok (.tuple #[]) w' ∧ NamesAt w' b n (Dk.upd f k none) ∧ w.grownBy w' (some b) ∧ w'.heap.size = w.heap.size := by
  obtain ⟨D, h1, h2⟩ := h.ex
  obtain ⟨w', hrun, hown, ht⟩ := h1.drop str_law Tryd.underlying55 (str_key hk) ty
  refine ⟨w', hrun, ⟨_, hown, fun x zd => ?_⟩, ht.grown, ?_⟩
  · by_cases e : x = k
    · subst e; rw [atKey_del_same, Dk.upd_same]; rfl
    · rw [atKey_del_other (by simpa using e), h2, Dk.upd_other _ _ _ _ e]
  · obtain ⟨_, _, _, _, _, rfl⟩ := ht; simp [setBlock]
end Go.Proofs.YtnjcngmmgceijaaDoor
namespace Go.Proofs.YtnjcngmmgceijaaDoor
open Go.RowKit

theorem str_at (k : Dk.Nm) (i : Nat) (h : i < k.length) (W : World) : (Instr.index 9 (encStr k) (.int .i64 (i : Int))).run Tryd.prog W = .ok (.int .u8 (B (k.getD i 0))) W := by
  have hg : (⟨k.toArray⟩ : ByteArray)[i]? = some k[i] := by
    rw [getElem?_pos (⟨k.toArray⟩ : ByteArray) i (by simpa [ByteArray.size] using h)]
    rfl
  simp [Instr.index, run_underlying Tryd.underlying9, asIntOf, hg, B, List.getD, h]

theorem okByte_iff (c : UInt8) : Dk.okByte c = true ↔ (97 ≤ B c ∧ B c ≤ 122) ∨ (48 ≤ B c ∧ B c ≤ 57) ∨ B c = 46 ∨ B c = 45 ∨ B c = 95 := by
  unfold Dk.okByte B
  simp [UInt8.le_iff_toNat_le, ← UInt8.toNat_inj]
  omega
theorem all_take (k : Dk.Nm) (j : Nat) (hj : j < k.length) (h : (k.take j).all Dk.okByte = true) (hb : Dk.okByte (k.getD j 0) = true) : (k.take (j + 1)).all Dk.okByte = true := by
  rw [List.take_succ_eq_append_getElem hj, List.all_append, h]
  simpa [List.getD, hj] using hb
theorem not_all (k : Dk.Nm) (j : Nat) (hj : j < k.length) (hb : Dk.okByte (k.getD j 0) ≠ true) : Dk.valid k = false := by
  have : k.all Dk.okByte = false := by
    rw [List.all_eq_false]
    exact ⟨k[j], List.getElem_mem _, by simpa [List.getD, hj] using hb⟩
  simp [Dk.valid, this]

set_option maxRecDepth 100000 in
set_option maxHeartbeats 1000000 in
theorem valid_any (k : Dk.Nm) (hk : k.length ≤ 9223372036854775807) (w : World) :
    Calls Tryd.prog 32 #[encStr k] w fun e w' => e = .returned (.bool (Dk.valid k)) ∧ w' = w := by
  obtain ⟨r, hr⟩ : ∃ r, r = Dk.valid k := ⟨_, rfl⟩
  rw [← hr]
  have HR := hide hr
  clear hr
  have hsz : (⟨k.toArray⟩ : ByteArray).size = k.length := by simp [ByteArray.size]
  by_cases h1 : 1 ≤ k.length
  · by_cases h2 : k.length ≤ 64
    · have d1 : decide ((k.length : Int) < 1) = false := by simp; omega
      have d2 : decide ((64 : Int) < (k.length : Int)) = false := by simp; omega
      have HV : Hid (k.all Dk.okByte = true → r = true) := hide (fun h => by rw [HR.out]; simp [Dk.valid, h, h1, h2])
      have HN : Hid (∀ j, j < k.length → Dk.okByte (k.getD j 0) ≠ true → r = false) := hide (fun j hj hb => by rw [HR.out]; exact not_all k j hj hb)
      clear HR
      go_enter Tryd.func32, Tryd.ntmps32
      go_wp2_with fail
      go_loopw [15] (fun i wr => ∃ j : Nat, j ≤ k.length ∧ i = .int .i64 j ∧ wr = w ∧ (k.take j).all Dk.okByte = true) (fun i _ => k.length - (intOf i).toNat)
      case atStart => exact ⟨0, Nat.zero_le _, rfl, rfl, by simp⟩
      case round =>
        obtain ⟨j, hj, rfl, rfl, hall⟩ := hrel
        have HALL := hide hall
        clear hall
        by_cases hlt : j < k.length
        · have hat := str_at k j hlt wr
          have HT := hide (all_take k j hlt HALL.out)
          have HN2 := hide (HN.out j hlt)
          have hi := okByte_iff (k.getD j 0)
          have hx0 : 0 ≤ B (k.getD j 0) := by unfold B; omega
          generalize k.getD j 0 = c at *
          have HI := hide hi
          clear hi
          generalize hx : B c = x at *
          clear hx HN HALL
          have HY : Hid ((97 ≤ x ∧ x ≤ 122) ∨ (48 ≤ x ∧ x ≤ 57) ∨ x = 46 ∨ x = 45 ∨ x = 95 → ∃ j' : Nat, j' ≤ k.length ∧ ((j' : Int) = (j : Int) + 1) ∧ (k.take j').all Dk.okByte = true) := hide (fun h => ⟨j + 1, by omega, by omega, HT.out (HI.out.2 h)⟩)
          have HZ : Hid (¬ ((97 ≤ x ∧ x ≤ 122) ∨ (48 ≤ x ∧ x ≤ 57) ∨ x = 46 ∨ x = 45 ∨ x = 95) → r = false) := hide (fun h => HN2.out (fun e => h (HI.out.1 e)))
          clear HT HN2 HI
          by_cases a1 : 97 ≤ x
          · by_cases a2 : x ≤ 122
            · go_wp2_with fail
              obtain ⟨j', e1, e2, e3⟩ := HY.out (by omega)
              exact ⟨⟨j', e1, by rw [e2], trivial, e3⟩, by simp [intOf]; omega⟩
            · have a3 : 48 ≤ x := by omega
              have a4 : ¬ x ≤ 57 := by omega
              have a5 : (x == 46) = false := by simp; omega
              have a6 : (x == 45) = false := by simp; omega
              have a7 : (x == 95) = false := by simp; omega
              go_wp2_with fail
              go_ret
              exact ⟨by rw [HZ.out (by omega)]; rfl, rfl⟩
          · by_cases a3 : 48 ≤ x
            · by_cases a4 : x ≤ 57
              · go_wp2_with fail
                obtain ⟨j', e1, e2, e3⟩ := HY.out (by omega)
                exact ⟨⟨j', e1, by rw [e2], trivial, e3⟩, by simp [intOf]; omega⟩
              · have a5 : (x == 46) = false := by simp; omega
                have a6 : (x == 45) = false := by simp; omega
                by_cases a7 : x = 95
                · subst a7
                  go_wp2_with fail
                  obtain ⟨j', e1, e2, e3⟩ := HY.out (by omega)
                  exact ⟨⟨j', e1, by rw [e2], trivial, e3⟩, by simp [intOf]; omega⟩
                · have a8 : (x == 95) = false := by simp; omega
                  go_wp2_with fail
                  go_ret
                  exact ⟨by rw [HZ.out (by omega)]; rfl, rfl⟩
            · have a7 : (x == 95) = false := by simp; omega
              by_cases a5 : x = 46
              · subst a5
                go_wp2_with fail
                obtain ⟨j', e1, e2, e3⟩ := HY.out (by omega)
                exact ⟨⟨j', e1, by rw [e2], trivial, e3⟩, by simp [intOf]; omega⟩
              · have a8 : (x == 46) = false := by simp; omega
                by_cases a6 : x = 45
                · subst a6
                  go_wp2_with fail
                  obtain ⟨j', e1, e2, e3⟩ := HY.out (by omega)
                  exact ⟨⟨j', e1, by rw [e2], trivial, e3⟩, by simp [intOf]; omega⟩
                · have a9 : (x == 45) = false := by simp; omega
                  go_wp2_with fail
                  go_ret
                  exact ⟨by rw [HZ.out (by omega)]; rfl, rfl⟩
        · obtain rfl : j = k.length := by omega
          go_wp2_with fail
          go_ret
          exact ⟨by rw [HV.out (by have := HALL.out; rwa [List.take_length] at this)]; rfl, rfl⟩
    · have e : r = false := by rw [HR.out]; simp [Dk.valid, h2]
      subst e
      have d1 : decide ((k.length : Int) < 1) = false := by simp; omega
      have d2 : decide ((64 : Int) < (k.length : Int)) = true := by simp; omega
      go_enter Tryd.func32, Tryd.ntmps32
      go_wp2_with fail
      go_ret
      exact ⟨rfl, rfl⟩
  · have e : r = false := by rw [HR.out]; simp [Dk.valid, h1]
    subst e
    have d1 : decide ((k.length : Int) < 1) = true := by simp; omega
    go_enter Tryd.func32, Tryd.ntmps32
    go_wp2_with fail
    go_ret
    exact ⟨rfl, rfl⟩
end Go.Proofs.YtnjcngmmgceijaaDoor
