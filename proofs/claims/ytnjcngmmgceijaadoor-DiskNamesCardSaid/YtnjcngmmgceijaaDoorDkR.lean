/-
  A move is laid behind the row of a disk's moves: in its place, or in a new row; what that leaves of all else, however often it were done.
-/
import Derived.Test.YtnjcngmmgceijaaDoorDkS
import Derived.Test.YtnjcngmmgceijaaDoorDkI
import Derived.Test.YtnjcngmmgceijaaDoorRegS
namespace Go.Proofs.YtnjcngmmgceijaaDoor
open Go.RowKit Go.Maps

theorem mv_info : (Tryd.prog.info? 69).map (fun i => (i.zero, i.size, i.bytes)) = some (some (.agg #[.string ⟨#[]⟩, .string ⟨#[]⟩, .pointer none]), 3, 40) := by kernel_rfl
theorem mvCells_len (ms : List Dk.Mv) : (ms.flatMap mvCells).length = ms.length * 3 := by
  induction ms with
  | nil => rfl
  | cons m ms ih => rw [List.flatMap_cons, List.length_append, ih, List.length_cons]; simp [mvCells]; omega
theorem mvCells_one (m : Dk.Mv) : ∀ u ∈ mvCells m, u.oneCell' = true := fun u hu => by
  simp only [mvCells, List.mem_cons, List.not_mem_nil, or_false] at hu
  rcases hu with rfl | rfl | rfl
  · rfl
  · rfl
  · cases m.file <;> rfl
theorem row_succD {w : World} {base : Nat} {e : TypeId} {size n : Nat} {v : Value} {xs : List Value} (h : w.ownsRow base e size v (n + 1) xs) : ∃ g cap, v = .slice (some ⟨g, 0, none⟩) (n + 1) cap := by
  rcases h.2 with ⟨_, h0⟩ | ⟨g, cap, cur, e, _⟩
  · omega
  · exact ⟨g, cap, e⟩

def updRow (n : Nat) (m : Dk.Mv) (cur : Array Value) : Array Value := (cur.toList.take (n * 3) ++ mvCells m ++ cur.toList.drop (n * 3 + 3)).toArray
theorem updRow_size {n : Nat} {m : Dk.Mv} {cur : Array Value} (h : n * 3 + 3 ≤ cur.size) : (updRow n m cur).size = cur.size := by
  simp [updRow, mvCells]; omega
theorem updRow_idem {n : Nat} {m : Dk.Mv} {cur : Array Value} (h : n * 3 + 3 ≤ cur.size) : updRow n m (updRow n m cur) = updRow n m cur := by
  unfold updRow
  have h1 : (cur.toList.take (n * 3)).length = n * 3 := by simp; omega
  have h2 : (mvCells m).length = 3 := rfl
  congr 1
  simp only [List.append_assoc]
  congr 1
  · rw [List.take_append_of_le_length (by omega), List.take_take]; simp
  · congr 1
    rw [List.drop_append, List.drop_append, List.drop_eq_nil_of_le (by omega), List.drop_eq_nil_of_le (by omega)]
    simp [h1, h2]
theorem updRow_take {n : Nat} {m : Dk.Mv} {cur : Array Value} (h : n * 3 + 3 ≤ cur.size) : (updRow n m cur).toList.take ((n + 1) * 3) = cur.toList.take (n * 3) ++ mvCells m := by
  have h1 : (cur.toList.take (n * 3)).length = n * 3 := by simp; omega
  have h2 : (mvCells m).length = 3 := rfl
  have h3 : (cur.toList.take (n * 3) ++ mvCells m).length = (n + 1) * 3 := by rw [List.length_append, h1, h2]; omega
  show (cur.toList.take (n * 3) ++ mvCells m ++ cur.toList.drop (n * 3 + 3)).take ((n + 1) * 3) = _
  rw [List.take_append_of_le_length (by omega), List.take_of_length_le (by omega)]

/-- There is room in the row that sv tells. -/
def RowR (sv : Value) (n k : Nat) : Prop := ∃ cap, sv = .slice (some ⟨k, 0, none⟩) n cap ∧ n + 1 ≤ cap
/-- What the statement may do, however often. -/
structure RowG (w2 : World) (sv : Value) (n : Nat) (m : Dk.Mv) (a b : World) : Prop where
  chg : Chg (RowR sv n) a b
  row : ∀ k cur0, RowR sv n k → w2.heap[k]? = some (.cells cur0 69 (0, 0)) → (b.heap[k]? = a.heap[k]? ∨ b.heap[k]? = some (.cells (updRow n m cur0) 69 (0, 0)))
theorem rowG_goes (w2 : World) (sv : Value) (n : Nat) (m : Dk.Mv) : Goes (RowG w2 sv n m) :=
  ⟨fun w => ⟨Chg.refl _ w, fun _ _ _ _ => .inl rfl⟩, fun {a b c} h k => ⟨h.chg.then k.chg, fun x cur0 hx hc => by
    rcases k.row x cur0 hx hc with e | e
    · rcases h.row x cur0 hx hc with e2 | e2
      · exact .inl (e.trans e2)
      · exact .inr (e.trans e2)
    · exact .inr e⟩⟩
/-- The row with the move behind it. -/
def RowOk (w2 : World) (sv : Value) (n : Nat) (ms : List Dk.Mv) (m : Dk.Mv) (v : Value) (w : World) : Prop :=
  (∃ k cap cur0, sv = .slice (some ⟨k, 0, none⟩) n cap ∧ n + 1 ≤ cap ∧ v = .slice (some ⟨k, 0, none⟩) (n + 1) cap ∧ w2.heap[k]? = some (.cells cur0 69 (0, 0)) ∧ w.heap[k]? = some (.cells (updRow n m cur0) 69 (0, 0))) ∨
  (∃ g, w2.heap.size ≤ g ∧ v.ownBlock = some g ∧ w.ownsRow 0 69 3 v (n + 1) ((ms ++ [m]).flatMap mvCells) ∧ ¬ RowR sv n g)
theorem RowOk.st {w2 : World} {sv : Value} {n : Nat} {ms : List Dk.Mv} {m : Dk.Mv} {v : Value} {a b : World} (h : RowOk w2 sv n ms m v a) (hg : RowG w2 sv n m a b) : RowOk w2 sv n ms m v b := by
  rcases h with ⟨k, cap, cur0, h1, h2, h3, h4, h5⟩ | ⟨g, h1, h2, h3, h4⟩
  · refine .inl ⟨k, cap, cur0, h1, h2, h3, h4, ?_⟩
    rcases hg.row k cur0 ⟨cap, h1, h2⟩ h4 with e | e
    · exact e.trans h5
    · exact e
  · exact .inr ⟨g, h1, h2, ownsRow_same h3 fun x hx => by
      rw [h2] at hx; injection hx with hx; subst hx
      exact hg.chg.block _ (h3.lt _ h2).2 h4, h4⟩
theorem RowOk.owns {w2 : World} {sv : Value} {n : Nat} {ms : List Dk.Mv} {m : Dk.Mv} {v : Value} {w : World} (h : RowOk w2 sv n ms m v w) (hr : w2.ownsRow 0 69 3 sv n (ms.flatMap mvCells)) :
    w.ownsRow 0 69 3 v (n + 1) ((ms ++ [m]).flatMap mvCells) ∧ (∀ g, v.ownBlock = some g → sv.ownBlock = some g ∨ w2.heap.size ≤ g) := by
  rcases h with ⟨k, cap, cur0, h1, h2, h3, h4, h5⟩ | ⟨g, h1, h2, h3, h4⟩
  · rcases hr.2 with ⟨e, _⟩ | ⟨g, cap', cur, e, _, hh, hc, hm, hs, ht⟩
    · rw [e] at h1; cases h1
    · rw [h1] at e
      injection e with e1 e2 e3
      injection e1 with e1
      injection e1 with e1
      subst e1
      subst e3
      rw [h4] at hh
      injection hh with hh
      injection hh with hh _ _
      subst hh
      have hsz : n * 3 + 3 ≤ cur0.size := by rw [hs]; omega
      refine ⟨⟨by rw [mvCells_len, List.length_append]; have := hr.1; rw [mvCells_len] at this; simp; omega, .inr ⟨k, cap, updRow n m cur0, h3, Nat.zero_le _, h5, h2, hm, by rw [updRow_size hsz]; exact hs, ?_⟩⟩, fun g hg => by rw [h3] at hg; rw [h1]; exact .inl hg⟩
      rw [updRow_take hsz, ht, List.flatMap_append]
      simp
  · exact ⟨h3, fun x hx => by rw [h2] at hx; injection hx with hx; exact .inr (by omega)⟩

theorem run_mvG (w2 w1 : World) (sv : Value) (n : Nat) (ms : List Dk.Mv) (m : Dk.Mv) (hr : w2.ownsRow 0 69 3 sv n (ms.flatMap mvCells)) (hG : RowG w2 sv n m w2 w1) (g : Nat) (hlen : n ≤ 1099511627776)
    (c0 : w1.cell? ⟨g, 0, none⟩ = some (encStr m.frm)) (c1 : w1.cell? ⟨g, 1, none⟩ = some (encStr m.to)) (c2 : w1.cell? ⟨g, 2, none⟩ = some (fileV m.file)) (ty : TypeId) :
    ∃ v' w', (Builtin.append_ #[56, 56] ty #[sv, .slice (some ⟨g, 0, none⟩) 1 1]).run Tryd.prog w1 = .ok v' w' ∧ RowG w2 sv n m w1 w' ∧ RowOk w2 sv n ms m v' w' := by
  obtain ⟨i, hi, hz, hs1, hby⟩ := info_parts mv_info
  have hnews : ∀ (j : Nat) u, (mvCells m)[j]? = some u → w1.cell? ((⟨g, 0, none⟩ : Addr).add j) = some u := fun j u hu => by
    rw [Addr.add_lit]
    rcases j with _ | _ | _ | j
    · simp [mvCells] at hu; subst hu; exact c0
    · simp [mvCells] at hu; subst hu; exact c1
    · simp [mvCells] at hu; subst hu; exact c2
    · simp [mvCells] at hu
  by_cases hroom : ∃ k, RowR sv n k
  · obtain ⟨k, cap, rfl, hc⟩ := hroom
    rcases hr.2 with ⟨e, _⟩ | ⟨k', cap', cur, e, _, hh, hcn, hm, hs, ht⟩
    · cases e
    · injection e with e1 e2 e3
      injection e1 with e1
      injection e1 with e1
      subst e1
      subst e3
      have hsz : n * 3 + 3 ≤ cur.size := by rw [hs]; omega
      have hcur : ∃ cur1, w1.heap[k]? = some (.cells cur1 69 (0, 0)) ∧ updRow n m cur1 = updRow n m cur ∧ cur1.size = cur.size := by
        rcases hG.row k cur ⟨cap, rfl, hc⟩ hh with e | e
        · exact ⟨cur, e.trans hh, rfl, rfl⟩
        · exact ⟨_, e, updRow_idem hsz, updRow_size hsz⟩
      obtain ⟨cur1, hh1, hu1, hz1⟩ := hcur
      have hrun := run_append_room (P := Tryd.prog) w1 56 ty 69 i Tryd.underlying56 hi k n cap cur1 hh1 ⟨g, 0, none⟩ 1 1 (mvCells m) (by rw [hs1]; rfl) hnews (mvCells_one m) hc (by rw [hs1]; show n * 3 + 3 ≤ _; omega)
      have hcl : (cur1.toList.take (n * i.size) ++ mvCells m ++ cur1.toList.drop (n * i.size + (mvCells m).length)).toArray = updRow n m cur := by rw [hs1, ← hu1]; rfl
      rw [hcl] at hrun
      have hnew := setRow_heap w1 k cur1 (updRow n m cur) 69 (0, 0) hh1
      refine ⟨_, _, hrun, ⟨⟨rfl, rfl, rfl, by simp, fun x hx hn => setRow_other w1 k x _ (fun e => hn (by subst e; exact ⟨cap, rfl, hc⟩))⟩, fun x cur0 hx hc0 => ?_⟩, .inl ⟨k, cap, cur, rfl, hc, rfl, hh, hnew⟩⟩
      obtain ⟨cap2, e, _⟩ := hx
      injection e with e _ _
      injection e with e
      injection e with e
      subst e
      rw [hh] at hc0
      injection hc0 with hc0
      injection hc0 with hc0 _ _
      subst hc0
      exact .inr hnew
  · have hown1 : w1.ownsRow 0 69 3 sv n (ms.flatMap mvCells) := ownsRow_same hr fun g hg => hG.chg.block g (hr.lt g hg).2 (fun h => hroom ⟨g, h⟩)
    obtain ⟨v', w', hrun, hown', hgr, _, h5⟩ := run_append_own_at (P := Tryd.prog) w1 0 56 ty 69 i _ 3 40 Tryd.underlying56 hi hz hs1 hby rfl (by omega) sv n (ms.flatMap mvCells) hown1 ⟨g, 0, none⟩ 1 1 (mvCells m) rfl hnews (mvCells_one m) (by simp only [maxLen]; omega) (by omega) (Nat.zero_le _)
    have hnew : v'.ownBlock = some w1.heap.size ∧ w1.grownBy w' none := by
      rcases hown1.2 with ⟨rfl, _⟩ | ⟨k, cap, cur, rfl, _, hh, hcn, hm, hs, ht⟩
      · obtain ⟨g', c', rfl⟩ := row_succD hown'
        rcases h5 with h5 | h5
        · cases h5
        · exact ⟨h5, hgr⟩
      · have hcap : ¬ n + 1 ≤ cap := fun h => hroom ⟨k, cap, rfl, h⟩
        have hr2 := run_append_grow (P := Tryd.prog) w1 56 ty 69 i _ Tryd.underlying56 hi hz ⟨k, 0, none⟩ n cap (ms.flatMap mvCells) (by rw [hs1]; exact hown1.1) (hown1.cells (g := k) rfl) ⟨g, 0, none⟩ 1 1 (mvCells m) (by rw [hs1]; rfl) hnews (by omega) (by omega) (growslice_fits (by omega) (by rw [hby]; omega))
        have he := hrun.symm.trans hr2
        injection he with hv hw
        subst hw
        refine ⟨by rw [hv]; rfl, ⟨rfl, rfl, rfl, by simp, fun x hx _ => Below.heap_alloc w1.drew _ x hx⟩⟩
    refine ⟨v', w', hrun, ⟨Chg.of_grown hnew.2 (fun k e => by cases e), fun k _ hk => absurd ⟨k, hk⟩ hroom⟩, .inr ⟨w1.heap.size, hG.chg.size, hnew.1, ?_, fun h => hroom ⟨_, h⟩⟩⟩
    rw [List.flatMap_append]
    simpa using hown'
end Go.Proofs.YtnjcngmmgceijaaDoor
