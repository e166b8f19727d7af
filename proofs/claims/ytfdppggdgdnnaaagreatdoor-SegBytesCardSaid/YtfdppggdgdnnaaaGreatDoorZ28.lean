/-
  Package name: texts of certain bytes; names, kinds.
  Package name: objects' names; what is parsed.
  Package name: names read back.
  Package name: what a text says of an object.
  Package name: objects' names read back.
-/
import Derived.Test.YtfdppggdgdnnaaaGreatDoorZ10
import Derived.Lib.AtoiErrMem
namespace Go.Proofs.YtfdppggdgdnnaaaGreatDoor
open Go.RowKit Go.Shelf

def justB (cs s : List UInt8) (most : Nat) : Bool := decide (s ≠ []) && (decide (s.length ≤ most) && s.all (cs.contains ·))
theorem drop_nil (p : UInt8 → Bool) : ∀ s : List UInt8, s.dropWhile p = [] ↔ s.all p = true
  | [] => by simp
  | c :: s => by
    rw [List.dropWhile_cons, List.all_cons]
    cases h : p c
    · simp
    · simpa using drop_nil p s

def abc : List UInt8 := [97, 98, 99, 100, 101, 102, 103, 104, 105, 106, 107, 108, 109, 110, 111, 112, 113, 114, 115, 116, 117, 118, 119, 120, 121, 122]
def within : List UInt8 := [97, 98, 99, 100, 101, 102, 103, 104, 105, 106, 107, 108, 109, 110, 111, 112, 113, 114, 115, 116, 117, 118, 119, 120, 121, 122, 48, 49, 50, 51, 52, 53, 54, 55, 56, 57, 46, 45, 95]
theorem abc_fin : ∀ i : Fin 256, abc.contains (UInt8.ofNat i.val) = Nm.letter (UInt8.ofNat i.val) := by decide +kernel
theorem abc_all (c : UInt8) : abc.contains c = Nm.letter c := by
  have h := abc_fin ⟨c.toNat, c.toNat_lt⟩
  rwa [show UInt8.ofNat c.toNat = c from UInt8.ofNat_toNat] at h
def okB (c : UInt8) : Bool := (97 ≤ c && c ≤ 122) || (48 ≤ c && c ≤ 57) || c == 46 || c == 45 || c == 95
theorem within_fin : ∀ i : Fin 256, within.contains (UInt8.ofNat i.val) = okB (UInt8.ofNat i.val) := by decide +kernel
theorem within_all (c : UInt8) : within.contains c = okB c := by
  have h := within_fin ⟨c.toNat, c.toNat_lt⟩
  rwa [show UInt8.ofNat c.toNat = c from UInt8.ofNat_toNat] at h
def validN (s : List UInt8) : Bool := decide (s ≠ []) && (decide (s.length ≤ 64) && s.all okB)
theorem just_abc (s : List UInt8) : justB abc s 8 = Nm.kindly s := by
  unfold justB Nm.kindly
  rw [show (fun c => abc.contains c) = Nm.letter from funext abc_all]
  cases s <;> simp
theorem just_within (s : List UInt8) : justB within s 64 = validN s := by
  unfold justB validN
  rw [show (fun c => within.contains c) = okB from funext within_all]
end Go.Proofs.YtfdppggdgdnnaaaGreatDoor

namespace Go.Proofs.YtfdppggdgdnnaaaGreatDoor
open Go.RowKit Go.Shelf

theorem cell_new (W : World) (cs : Array Value) (T : TypeId) (fr : Nat × Nat) (j : Nat) : (W.alloc (.cells cs T fr)).cell? ⟨W.heap.size, j, none⟩ = cs[j]? := by
  have h : (W.alloc (.cells cs T fr)).heap[W.heap.size]? = some (.cells cs T fr) := by show (W.heap.push _)[W.heap.size]? = _; simp
  unfold World.cell?
  simp only [h]
  rfl
theorem strs_at (W : World) (xs : List (List UInt8)) (cs : Array Value) (T : TypeId) (fr : Nat × Nat) (hcs : (xs.map str).toArray = cs) (j : Nat) (x : List UInt8) (hx : xs[j]? = some x) : (W.alloc (.cells cs T fr)).cell? ⟨W.heap.size, j, none⟩ = some (str x) := by
  rw [cell_new, ← hcs]
  simp [hx]
theorem join_obj (a k b : List UInt8) : Lib.join [[115, 101, 103], a, k, b] [45] = Nm.seg4 ++ (a ++ (45 :: (k ++ (45 :: b)))) := by
  rw [Lib.join_cons]
  simp [Lib.joinTail, Nm.seg4]

def idB (i : Int) : Bool := decide (Nm.idly i)
end Go.Proofs.YtfdppggdgdnnaaaGreatDoor

namespace Go.Proofs.YtfdppggdgdnnaaaGreatDoor
open Go.RowKit Go.Shelf

/-- A variable of the library's that holds an error. -/
def ErrVar (g : Nat) (w : World) : Prop := ∃ ev, w.cell? ⟨g, 0, none⟩ = some ev ∧ (ev = .nilIface ∨ ∃ te pe, ev = .iface te pe)
theorem ErrVar.below {g : Nat} {w w' : World} (h : ErrVar g w) (hb : Below w.heap.size w w') : ErrVar g w' := by
  obtain ⟨ev, h1, h2⟩ := h
  exact ⟨ev, (hb.cell (p := ⟨g, 0, none⟩) (World.block_lt_of_cell? w _ h1)).trans h1, h2⟩
theorem err_type : ∃ ms, Tryz.prog.underlying 35 = some (.interface ms) := by
  have h1 : (match Tryz.prog.underlying 35 with | some (.interface _) => true | _ => false) = true := by kernel_rfl
  cases hu : Tryz.prog.underlying 35 with
  | none => rw [hu] at h1; cases h1
  | some u =>
    rw [hu] at h1
    cases u with
    | interface ms => exact ⟨ms, rfl⟩
    | _ => cases h1
theorem neq_err (T : TypeId) (v : Value) (w : World) : (binOp .neq 35 (.iface T v) .nilIface).run Tryz.prog w = .ok (.bool true) w := by
  obtain ⟨ms, h1⟩ := err_type
  have h : ∀ d : Nat, (Op.equalIn (d + 1) 35 (.iface T v) .nilIface).run Tryz.prog w = .ok false w := fun d => by simp [Op.equalIn, run_underlying h1]
  simp only [binOp]
  simp [Op.equal, Op.maxDepth, h 9999]

/-- What a text says of a segment. -/
def baseOf (s : List UInt8) : Int × Bool := if s = Nm.segN (Nm.val 0 (s.drop 4)) ∧ Nm.right (Nm.val 0 (s.drop 4) : Int) then ((Nm.val 0 (s.drop 4) : Int), true) else (0, false)
theorem baseOf_yes (n : Nat) (h : Nm.right (n : Int)) : baseOf (Nm.segN n) = ((n : Int), true) := by
  have e : Nm.val 0 ((Nm.segN n).drop 4) = n := by
    show Nm.val 0 (Nm.dgs 13 n) = n
    exact Nm.val_dgs 13 n (by have := Nm.right_lt h; simpa using this)
  unfold baseOf
  rw [e, if_pos ⟨rfl, h⟩]
theorem baseOf_no (s : List UInt8) (h : ∀ n : Nat, Nm.right (n : Int) → s ≠ Nm.segN n) : baseOf s = (0, false) := by
  unfold baseOf
  rw [if_neg fun h2 => h _ h2.2 h2.1]
theorem trim_seg (n : Nat) : Lib.trimPrefix (Nm.segN n) Nm.log = Nm.dgs 13 n := by
  unfold Lib.trimPrefix Nm.segN
  simp [Nm.log, Lib.hasPrefix]
theorem seg_ne_nil (s : List UInt8) (v : Int) (hs : ∀ n : Nat, Nm.right (n : Int) → s ≠ Nm.segN n) (h0 : s ≠ []) : Nm.seg v ≠ s := by
  unfold Nm.seg
  split
  · rename_i hr
    intro e
    obtain ⟨n, rfl⟩ := Int.eq_ofNat_of_zero_le hr.1
    exact hs n hr (by simpa using e.symm)
  · exact fun e => h0 e.symm

end Go.Proofs.YtfdppggdgdnnaaaGreatDoor

namespace Go.Proofs.YtfdppggdgdnnaaaGreatDoor
open Go.RowKit Go.Shelf

/-- The library's bound on a search. -/
def MaxVar (w : World) : Prop := ∃ m : Int, w.cell? ⟨22, 0, none⟩ = some (.int .i64 m)
theorem MaxVar.below {w w' : World} (h : MaxVar w) (hb : Below w.heap.size w w') : MaxVar w' := by
  obtain ⟨m, h⟩ := h
  exact ⟨m, (hb.cell (p := ⟨22, 0, none⟩) (World.block_lt_of_cell? w _ h)).trans h⟩
theorem split_len (sep : List UInt8) : ∀ (k : Nat) (s : List UInt8), ∀ x ∈ Lib.splitK sep 0 k s, x.length ≤ s.length
  | 0, s, x, h => by rw [List.mem_singleton.1 h]; exact Nat.le_refl _
  | k + 1, s, x, h => by
    unfold Lib.splitK at h
    split at h
    · rw [List.mem_singleton.1 h]; exact Nat.le_refl _
    · rcases List.mem_cons.1 h with e | e
      · subst e; rw [List.length_take]; exact Nat.min_le_right _ _
      · have := split_len sep k _ x e
        simp at this
        omega
theorem str_data (b : ByteArray) : Value.string b = str b.data.toList := by cases b; simp
/-- What a text says of an object. -/
structure Pt where
  id : Int
  kind : List UInt8
  base : Int
  ok : Bool
def ptId (s : List UInt8) : Nat := Nm.val 0 ((s.drop 4).take 10)
def ptKind (s : List UInt8) : List UInt8 := (s.drop 15).take (s.length - 29)
def ptBase (s : List UInt8) : Nat := Nm.val 0 (s.drop (s.length - 13))
def partsOf (s : List UInt8) : Pt := if s = Nm.objN (ptId s) (ptKind s) (ptBase s) ∧ Nm.idly (ptId s : Int) ∧ Nm.kindly (ptKind s) = true ∧ Nm.right (ptBase s : Int) then ⟨ptId s, ptKind s, ptBase s, true⟩ else ⟨0, [], 0, false⟩
def PtV (p : Pt) : Value := .tuple #[.int .i64 p.id, str p.kind, .int .i64 p.base, .bool p.ok]
theorem ptObj (i : Nat) (k : List UInt8) (b : Nat) (hi : i < 10 ^ 10) (hb : b < 10 ^ 13) : ptId (Nm.objN i k b) = i ∧ ptKind (Nm.objN i k b) = k ∧ ptBase (Nm.objN i k b) = b := by
  have l1 := Nm.dgs_length 10 i
  have l2 := Nm.dgs_length 13 b
  have e1 : ((Nm.objN i k b).drop 4).take 10 = Nm.dgs 10 i := by
    show (Nm.dgs 10 i ++ _).take 10 = _
    rw [← l1, List.take_left']
    rfl
  have e2 : (Nm.objN i k b).drop 15 = k ++ (45 :: Nm.dgs 13 b) := by
    show (Nm.dgs 10 i ++ (45 :: (k ++ (45 :: Nm.dgs 13 b)))).drop 11 = _
    rw [List.drop_append, l1]
    simp [List.drop_eq_nil_of_le, l1]
  have hl := Nm.objN_length i k b
  have e3 : (Nm.objN i k b).drop ((Nm.objN i k b).length - 13) = Nm.dgs 13 b := by
    rw [hl, show 29 + k.length - 13 = 15 + (k.length + 1) by omega, ← List.drop_drop, e2]
    rw [List.drop_append]
    simp
  refine ⟨?_, ?_, ?_⟩
  · unfold ptId
    rw [e1, Nm.val_dgs 10 i hi]
  · unfold ptKind
    rw [e2, hl, show 29 + k.length - 29 = k.length by omega]
    simp
  · unfold ptBase
    rw [e3, Nm.val_dgs 13 b hb]
theorem partsOf_yes (i : Nat) (k : List UInt8) (b : Nat) (h1 : Nm.idly (i : Int)) (h2 : Nm.kindly k = true) (h3 : Nm.right (b : Int)) : partsOf (Nm.objN i k b) = ⟨i, k, b, true⟩ := by
  obtain ⟨a, c, d⟩ := ptObj i k b (by have := Nm.idly_lt h1; simpa using this) (by have := Nm.right_lt h3; simpa using this)
  unfold partsOf
  rw [a, c, d, if_pos ⟨rfl, h1, h2, h3⟩]
theorem partsOf_no (s : List UInt8) (h : ∀ (i : Nat) k (b : Nat), Nm.idly (i : Int) → Nm.kindly k = true → Nm.right (b : Int) → s ≠ Nm.objN i k b) : partsOf s = ⟨0, [], 0, false⟩ := by
  unfold partsOf
  rw [if_neg fun h2 => h _ _ _ h2.2.1 h2.2.2.1 h2.2.2.2 h2.1]
theorem obj_ne (s : List UInt8) (i : Int) (k : List UInt8) (b : Int) (h : ∀ (i : Nat) k (b : Nat), Nm.idly (i : Int) → Nm.kindly k = true → Nm.right (b : Int) → s ≠ Nm.objN i k b) (h0 : s ≠ []) : Nm.obj i k b ≠ s := by
  unfold Nm.obj
  split
  · rename_i hr
    obtain ⟨h1, h2, h3⟩ := hr
    intro e
    obtain ⟨n, rfl⟩ := Int.eq_ofNat_of_zero_le h1.1
    obtain ⟨m, rfl⟩ := Int.eq_ofNat_of_zero_le h3.1
    exact h n k m h1 h2 h3 (by simpa using e.symm)
  · exact fun e => h0 e.symm
end Go.Proofs.YtfdppggdgdnnaaaGreatDoor

namespace Go.Proofs.YtfdppggdgdnnaaaGreatDoor
open Go.RowKit Go.Shelf

end Go.Proofs.YtfdppggdgdnnaaaGreatDoor
