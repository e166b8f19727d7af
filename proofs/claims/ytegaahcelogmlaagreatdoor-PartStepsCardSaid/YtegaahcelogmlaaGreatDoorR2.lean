/-
  A store's Get and Head.
  The laying of maps.Keys, slices.Sorted and slices.Sort at the numbers of a store's uploads.
  The laying of maps.Keys, slices.Sorted and slices.Sort at the names of a store's objects.
  Rows of texts: of the call's own, made and appended to; and read.
  Names, plainly: numbers in so many digits, what they are read as, how they stand to one another; segments' and objects' names; texts that rise, each once.
  Texts that rise, each once, plainly: put in place one by one, or sorted and made compact: one list.
  A store's names and uploads: Names, Open.
-/
import Derived.Test.YtegaahcelogmlaaGreatDoorT4
import Derived.Test.YtegaahcelogmlaaGreatDoorB2
import Derived.Shelf.SlIter.Nil
import Derived.Shelf.SlIterI.Nil
import Derived.Shelf.SortM.Plain
import Derived.Shelf.SortM.SortNone
import Derived.Test.YtegaahcelogmlaaGreatDoorRows
import Derived.Test.YtegaahcelogmlaaGreatDoorT1
import Derived.Sort.EncStr
import Derived.WalkKit
import Derived.ProofKit
import Derived.Below
import Derived.BigQuiet
import Derived.Deep.QuietTactic
import Derived.Outline
import Derived.LoopTactic
import Derived.Deep.LoopGhost
import Derived.Lib.ParseIntB
import Derived.Lib.ParseIntBCases
import Derived.Lib.ItoaNum
import Derived.Lib.Repeat
import Derived.Lib.Join
import Derived.Lib.Split
import Derived.Lib.SplitLaws
import Derived.Lib.SlicesCompact
namespace Go.Proofs.YtegaahcelogmlaaGreatDoor
open Go.RowKit Go.Maps

/-- What is at a name, as a look-up tells it. -/
theorem StoreL.lookObj {w : World} {sb ob ub : Nat} {sv : Value} {ov : St.Nm → Option Value} {pb : Int → Nat} {pv : Int → Int → Option Value} {s : St.S} {m : Nat} {S D : Nat → Prop} (h : StoreL w sb ob ub sv ov pb pv s m S D) (k : List UInt8) (hk : k.length ≤ 9223372036854775807) :
    ∃ A c, (∀ q, (Instr.lookup 48 (.map (some ob)) (encStr k) true).run Tryz.prog (w.drewN q) = .ok (.tuple #[.slice A ((s.objs k).getD []).length c, .bool (s.objs k).isSome]) (w.drewN q)) ∧ ((s.objs k).getD []).length ≤ 1000000000 ∧ Arg w A c ((s.objs k).getD []) := by
  have hl := fun q => (show MapS (w.drewN q) ob m ov from h.objs.same rfl).look strK map_objs (zero_bytes (w.drewN q)) k (strKey hk)
  have hb := h.oat k
  cases h1 : ov k with
  | none =>
    cases h2 : s.objs k with
    | none => rw [h1] at hl; exact ⟨none, 0, hl, by simp, ⟨by simp, by omega, fun _ => rfl, .inl rfl⟩⟩
    | some b => rw [h1, h2] at hb; exact hb.elim
  | some v =>
    cases h2 : s.objs k with
    | none => rw [h1, h2] at hb; exact hb.elim
    | some b =>
      rw [h1, h2] at hb
      obtain ⟨A, c, rfl, q1, q2, q3, q4, q5, _⟩ := hb
      rw [h1] at hl
      exact ⟨A, c, hl, q3, ⟨q1, q2, q4, q5⟩⟩

def St.S.get (s : St.S) (k : St.Nm) (off n : Int) : (List UInt8 × Option Nat) × St.S := s.ask [] (St.S.getF k off n)
theorem St.get_quiet (k : St.Nm) (off n : Int) : St.Quiet (St.S.getF k off n) := fun t => by unfold St.S.getF; split; exact ⟨rfl, rfl⟩; split <;> exact ⟨rfl, rfl⟩
end Go.Proofs.YtegaahcelogmlaaGreatDoor

namespace Go.Proofs.YtegaahcelogmlaaGreatDoor
open Go.Shelf
def lay_keysIF_ren : Go.Shelf.Ren := ⟨fun | 7 => 25 | 10 => 36 | n => n, fun | 23 => 49 | 26 => 3 | 3 => 69 | 28 => 65 | 0 => 0 | 27 => 64 | 33 => 81 | 4 => 4 | n => n, fun | n => n⟩
theorem lay_keysIF : Go.Proofs.SlLaysZI.n7 Tryz.prog lay_keysIF_ren := {
  mixed := by kernel_rfl
  f7 := ⟨Tryz.f25.name, by decide, Tryz.func25.trans (congrArg some (by kernel_rfl))⟩
  f10 := ⟨Tryz.f36.name, by decide, Tryz.func36.trans (congrArg some (by kernel_rfl))⟩
  t0 := Tryz.underlying0
  a0 := Tryz.isAgg0
  z0 := Tryz.sizeOf0
  v0 := Tryz.zeroValue0
  t4 := Tryz.underlying4
  a4 := Tryz.isAgg4
  z4 := Tryz.sizeOf4
  v4 := Tryz.zeroValue4
  t23 := Tryz.underlying49
  a23 := Tryz.isAgg49
  z23 := Tryz.sizeOf49
  v23 := Tryz.zeroValue49
  t26 := Tryz.underlying3
  a26 := Tryz.isAgg3
  z26 := Tryz.sizeOf3
  v26 := Tryz.zeroValue3
  t27 := Tryz.underlying64
  a27 := Tryz.isAgg64
  z27 := Tryz.sizeOf64
  v27 := Tryz.zeroValue64
  t28 := Tryz.underlying65
  a28 := Tryz.isAgg65
  z28 := Tryz.sizeOf65
  v28 := Tryz.zeroValue65
  t33 := Tryz.underlying81
  a33 := Tryz.isAgg81
  z33 := Tryz.sizeOf81
  v33 := Tryz.zeroValue81 }
def lay_sortedIF_ren : Go.Shelf.Ren := ⟨fun | 6 => 24 | 8 => 34 | 9 => 35 | 11 => 49 | 13 => 51 | 12 => 50 | 23 => 76 | 24 => 77 | 14 => 67 | 15 => 68 | 16 => 69 | 17 => 70 | 18 => 71 | 19 => 72 | 20 => 73 | 21 => 74 | 22 => 75 | 25 => 86 | 26 => 87 | 27 => 88 | 28 => 89 | 29 => 90 | 30 => 91 | 31 => 94 | n => n, fun | 26 => 3 | 28 => 65 | 24 => 23 | 0 => 0 | 3 => 3 | 37 => 83 | 48 => 33 | 50 => 128 | 4 => 4 | 40 => 119 | 39 => 118 | 45 => 124 | 5 => 5 | 9 => 9 | 51 => 140 | 55 => 144 | 57 => 147 | 58 => 148 | 33 => 81 | n => n, fun | n => n⟩
theorem lay_sortedIF : Go.Proofs.SlLaysZI.n6 Tryz.prog lay_sortedIF_ren := {
  mixed := by kernel_rfl
  f6 := ⟨Tryz.f24.name, by decide, Tryz.func24.trans (congrArg some (by kernel_rfl))⟩
  f8 := ⟨Tryz.f34.name, by decide, Tryz.func34.trans (congrArg some (by kernel_rfl))⟩
  f11 := ⟨Tryz.f49.name, by decide, Tryz.func49.trans (congrArg some (by kernel_rfl))⟩
  t0 := Tryz.underlying0
  a0 := Tryz.isAgg0
  z0 := Tryz.sizeOf0
  v0 := Tryz.zeroValue0
  t24 := Tryz.underlying23
  a24 := Tryz.isAgg23
  z24 := Tryz.sizeOf23
  v24 := Tryz.zeroValue23
  t26 := Tryz.underlying3
  a26 := Tryz.isAgg3
  z26 := Tryz.sizeOf3
  v26 := Tryz.zeroValue3
  t28 := Tryz.underlying65
  a28 := Tryz.isAgg65
  z28 := Tryz.sizeOf65
  v28 := Tryz.zeroValue65
  i26 := by kernel_rfl }
def lay_sortIF_ren : Go.Shelf.Ren := ⟨fun | 5 => 35 | 8 => 51 | 7 => 50 | 19 => 76 | 20 => 77 | 10 => 67 | 11 => 68 | 12 => 69 | 13 => 70 | 14 => 71 | 15 => 72 | 16 => 73 | 17 => 74 | 18 => 75 | 30 => 86 | 31 => 87 | 32 => 88 | 33 => 89 | 34 => 90 | 35 => 91 | 40 => 94 | n => n, fun | 23 => 23 | 25 => 3 | 3 => 3 | 32 => 83 | 22 => 23 | 0 => 0 | 44 => 33 | 46 => 128 | 4 => 4 | 36 => 119 | 35 => 118 | 41 => 124 | 5 => 5 | 9 => 9 | 53 => 140 | 57 => 144 | 63 => 147 | 64 => 148 | n => n, fun | n => n⟩
theorem lay_sortIF : Go.Proofs.SlLaysM.n5 Tryz.prog lay_sortIF_ren := {
  mixed := by kernel_rfl
  f5 := ⟨Tryz.f35.name, by decide, Tryz.func35.trans (congrArg some (by kernel_rfl))⟩
  f7 := ⟨Tryz.f50.name, by decide, Tryz.func50.trans (congrArg some (by kernel_rfl))⟩
  f8 := Tryz.func51.trans (congrArg some (by kernel_rfl))
  f10 := ⟨Tryz.f67.name, by decide, Tryz.func67.trans (congrArg some (by kernel_rfl))⟩
  f11 := ⟨Tryz.f68.name, by decide, Tryz.func68.trans (congrArg some (by kernel_rfl))⟩
  f12 := ⟨Tryz.f69.name, by decide, Tryz.func69.trans (congrArg some (by kernel_rfl))⟩
  f13 := ⟨Tryz.f70.name, by decide, Tryz.func70.trans (congrArg some (by kernel_rfl))⟩
  f14 := ⟨Tryz.f71.name, by decide, Tryz.func71.trans (congrArg some (by kernel_rfl))⟩
  f15 := ⟨Tryz.f72.name, by decide, Tryz.func72.trans (congrArg some (by kernel_rfl))⟩
  f16 := ⟨Tryz.f73.name, by decide, Tryz.func73.trans (congrArg some (by kernel_rfl))⟩
  f17 := ⟨Tryz.f74.name, by decide, Tryz.func74.trans (congrArg some (by kernel_rfl))⟩
  f18 := ⟨Tryz.f75.name, by decide, Tryz.func75.trans (congrArg some (by kernel_rfl))⟩
  f19 := Tryz.func76.trans (congrArg some (by kernel_rfl))
  f20 := Tryz.func77.trans (congrArg some (by kernel_rfl))
  f30 := ⟨Tryz.f86.name, by decide, Tryz.func86.trans (congrArg some (by kernel_rfl))⟩
  f31 := Tryz.func87.trans (congrArg some (by kernel_rfl))
  f32 := Tryz.func88.trans (congrArg some (by kernel_rfl))
  f33 := ⟨Tryz.f89.name, by decide, Tryz.func89.trans (congrArg some (by kernel_rfl))⟩
  f34 := ⟨Tryz.f90.name, by decide, Tryz.func90.trans (congrArg some (by kernel_rfl))⟩
  f35 := ⟨Tryz.f91.name, by decide, Tryz.func91.trans (congrArg some (by kernel_rfl))⟩
  f40 := ⟨Tryz.f94.name, by decide, Tryz.func94.trans (congrArg some (by kernel_rfl))⟩
  t0 := Tryz.underlying0
  a0 := Tryz.isAgg0
  z0 := Tryz.sizeOf0
  v0 := Tryz.zeroValue0
  t3 := Tryz.underlying3
  a3 := Tryz.isAgg3
  z3 := Tryz.sizeOf3
  v3 := Tryz.zeroValue3
  t4 := Tryz.underlying4
  a4 := Tryz.isAgg4
  z4 := Tryz.sizeOf4
  v4 := Tryz.zeroValue4
  t5 := Tryz.underlying5
  a5 := Tryz.isAgg5
  z5 := Tryz.sizeOf5
  v5 := Tryz.zeroValue5
  t9 := Tryz.underlying9
  a9 := Tryz.isAgg9
  z9 := Tryz.sizeOf9
  v9 := Tryz.zeroValue9
  t22 := Tryz.underlying23
  a22 := Tryz.isAgg23
  z22 := Tryz.sizeOf23
  v22 := Tryz.zeroValue23
  t23 := Tryz.underlying23
  a23 := Tryz.isAgg23
  z23 := Tryz.sizeOf23
  v23 := Tryz.zeroValue23
  t25 := Tryz.underlying3
  a25 := Tryz.isAgg3
  z25 := Tryz.sizeOf3
  v25 := Tryz.zeroValue3
  t32 := Tryz.underlying83
  a32 := Tryz.isAgg83
  z32 := Tryz.sizeOf83
  v32 := Tryz.zeroValue83
  t35 := Tryz.underlying118
  a35 := Tryz.isAgg118
  z35 := Tryz.sizeOf118
  v35 := Tryz.zeroValue118
  t36 := Tryz.underlying119
  a36 := Tryz.isAgg119
  z36 := Tryz.sizeOf119
  v36 := Tryz.zeroValue119
  t41 := Tryz.underlying124
  a41 := Tryz.isAgg124
  z41 := Tryz.sizeOf124
  v41 := Tryz.zeroValue124
  t44 := Tryz.underlying33
  a44 := Tryz.isAgg33
  z44 := Tryz.sizeOf33
  v44 := Tryz.zeroValue33
  t46 := Tryz.underlying128
  a46 := Tryz.isAgg128
  z46 := Tryz.sizeOf128
  v46 := Tryz.zeroValue128
  t53 := Tryz.underlying140
  a53 := Tryz.isAgg140
  z53 := Tryz.sizeOf140
  v53 := Tryz.zeroValue140
  t57 := Tryz.underlying144
  a57 := Tryz.isAgg144
  z57 := Tryz.sizeOf144
  v57 := Tryz.zeroValue144
  t63 := Tryz.underlying147
  a63 := Tryz.isAgg147
  z63 := Tryz.sizeOf147
  v63 := Tryz.zeroValue147
  t64 := Tryz.underlying148
  a64 := Tryz.isAgg148
  z64 := Tryz.sizeOf148
  v64 := Tryz.zeroValue148 }

open Go.RowKit Go.Maps Go.Sort
theorem lay_sortsI (m : Nat) : AnyZI.SortsIn Tryz.prog lay_sortedIF_ren Fence.wide m :=
  ⟨fun blk off cap ss W hH hblk hsz => callsIn_wide.2 (AnyM.slices_Sort_int lay_sortIF blk off cap ss W hH hblk hsz),
   fun p cap W => callsIn_wide.2 (AnyM.slices_Sort_int_none lay_sortIF p cap W)⟩
theorem lay_maps_KeysI (mb : Option Nat) (W : World) : CallsIn Fence.wide 5 Tryz.prog 25 #[.map mb] W fun e w' => e = .returned (.func (.func 36) #[] #[.pointer (some ⟨W.heap.size, 0, none⟩)]) ∧ w' = W.alloc (.cells #[.map mb] 49) :=
  AnyZI.keys_in lay_keysIF Fence.wide 5 trivial rfl mb W
set_option maxHeartbeats 1000000 in
theorem lay_slices_Sorted_keysI {H : Type} (b nn : Nat) (D0 : DataW H) (R : Value → Option (DataW H × List MemPlace)) (w : World) (hown : w.ownsMap Tryz.prog 3 R b nn D0) (hmax : Maps.size D0 ≤ maxLen) (hbytes : Maps.size D0 * 8 ≤ 140737488355328) :
    CallsIn Fence.wide 5 Tryz.prog 24 #[.func (.func 36) #[] #[.pointer (some ⟨w.heap.size, 0, none⟩)]] (w.alloc (.cells #[.map (some b)] 49)) fun e w' => ∃ (v : Value) (ss : List Int), e = .returned v ∧ ss.Perm (intKeys D0) ∧
      w'.ownsRow (w.alloc (.cells #[.map (some b)] 49)).heap.size 3 1 v ss.length ((ss.mergeSort (fun x y => decide (x ≤ y))).map encZ) ∧ (v = .slice none 0 0 ↔ ss = []) ∧ Below (w.alloc (.cells #[.map (some b)] 49)).heap.size (w.alloc (.cells #[.map (some b)] 49)) w' := by
  have hbl := hown.lt
  have hseq : SeqGives Fence.wide 2 Tryz.prog 36 #[.pointer (some ⟨w.heap.size, 0, none⟩)] encZ (fun ss => ss.Perm (intKeys D0)) (Maps.size D0) (w.alloc (.cells #[.map (some b)] 49)) :=
    AnyZI.keys_gives (ρ := lay_keysIF_ren) { lay_keysIF with } Fence.wide _ trivial rfl (by omega) w.heap.size b nn D0 _ (by simp) (by simp) (by
      obtain ⟨es, clock, hb, Ft, hs, hD⟩ := hown
      exact ⟨es, clock, (Below.heap_alloc _ _ b hbl).trans hb, Ft, hs, hD⟩)
  exact AnyZI.sorted_in lay_sortedIF Fence.wide 5 trivial trivial trivial trivial rfl (by omega) (lay_sortsI _) (enters_of Tryz.func35 (by kernel_rfl) rfl) 36 #[.pointer (some ⟨w.heap.size, 0, none⟩)] trivial (enters_of Tryz.func36 (by kernel_rfl) rfl) _ _ hmax hbytes _ hseq
end Go.Proofs.YtegaahcelogmlaaGreatDoor

namespace Go.Proofs.YtegaahcelogmlaaGreatDoor
open Go.Shelf
open Go.RowKit Go.Maps Go.Sort
end Go.Proofs.YtegaahcelogmlaaGreatDoor

namespace Go.Proofs.YtegaahcelogmlaaGreatDoor
open Go.RowKit Go.Sort

def txs (l : List (List UInt8)) : List Value := l.map encStr
theorem txs_len (l : List (List UInt8)) : (txs l).length = l.length := by simp [txs]
theorem txs_one (l : List (List UInt8)) : ∀ u ∈ txs l, u.oneCell' = true := by
  intro u hu
  obtain ⟨x, _, rfl⟩ := List.mem_map.1 hu
  rfl
theorem text_info : (Tryz.prog.info? 9).map (fun i => (i.zero, i.size, i.bytes)) = some (some (.string ⟨#[]⟩), 1, 16) := by kernel_rfl

/-- A slice that reads as texts: nil, empty or not. -/
def ReadsT (w : World) (A : Option Addr) (l : List (List UInt8)) : Prop :=
  l = [] ∨ ∃ b off, A = some ⟨b, off, none⟩ ∧ b < w.heap.size ∧ ∀ k, k < l.length → w.cell? ⟨b, off + k, none⟩ = some (encStr (l.getD k []))
theorem ReadsT.drewN {w : World} {A : Option Addr} {l : List (List UInt8)} (h : ReadsT w A l) (n : Nat) : ReadsT (w.drewN n) A l := h
theorem ReadsT.below {w w' : World} {C : Nat} {A : Option Addr} {l : List (List UInt8)} (h : ReadsT w A l) (hb : Below C w w') (hC : w.heap.size ≤ C) : ReadsT w' A l := by
  rcases h with h | ⟨b, off, e, hlt, hc⟩
  · exact .inl h
  · exact .inr ⟨b, off, e, by have := hb.size; omega, fun k hk => (hb.cell (p := ⟨b, off + k, none⟩) (by show b < C; omega)).trans (hc k hk)⟩
/-- Of a slice that reads as texts, a part. -/
theorem ReadsT.get {w : World} {A : Option Addr} {l : List (List UInt8)} (h : ReadsT w A l) (k : Nat) (hk : k < l.length) : ∃ b off, A = some ⟨b, off, none⟩ ∧ w.cell? ⟨b, off + k, none⟩ = some (encStr (l.getD k [])) := by
  rcases h with rfl | ⟨b, off, e, _, hc⟩
  · simp at hk
  · exact ⟨b, off, e, hc k hk⟩
theorem ReadsT.take {w : World} {A : Option Addr} {l : List (List UInt8)} (h : ReadsT w A l) (k : Nat) : ReadsT w A (l.take k) := by
  rcases h with rfl | ⟨b, off, e, hlt, hc⟩
  · exact .inl (by simp)
  · refine .inr ⟨b, off, e, hlt, fun j hj => ?_⟩
    rw [List.length_take] at hj
    rw [hc j (by omega)]
    simp [List.getD, show j < k by omega]
theorem ReadsT.drop {w : World} {b off k : Nat} {l : List (List UInt8)} (h : ReadsT w (some ⟨b, off, none⟩) l) : ReadsT w (some ⟨b, off + k, none⟩) (l.drop k) := by
  rcases h with rfl | ⟨b', off', e, hlt, hc⟩
  · exact .inl (by simp)
  · injection e with e; injection e with e1 e2 _; subst e1 e2
    refine .inr ⟨b, off + k, rfl, hlt, fun j hj => ?_⟩
    rw [List.length_drop] at hj
    rw [show off + k + j = off + (k + j) by omega, hc (k + j) (by omega)]
    simp [List.getD, List.getElem?_drop]
theorem ReadsT.news {w : World} {ad : Addr} {l : List (List UInt8)} (h : ReadsT w (some ad) l) : ∀ j u, (txs l)[j]? = some u → w.cell? (ad.add j) = some u := by
  intro j u hu
  rcases h with rfl | ⟨b, off, e, hb, hc⟩
  · simp [txs] at hu
  · obtain rfl := Option.some.inj e
    have hj : j < l.length := by
      have := (List.getElem?_eq_some_iff.1 hu).1
      rwa [txs_len] at this
    rw [show (⟨b, off, none⟩ : Addr).add j = ⟨b, off + j, none⟩ from by rw [Addr.add_lit]]
    rw [hc j hj]
    simpa [txs, hj, List.getD] using hu
/-- A new block whose cells are texts reads as them. -/
theorem ReadsT.made (w : World) (l : List (List UInt8)) (cs : Array Value) (e : TypeId) (fr : Nat × Nat) (g : Nat) (hg : g = w.heap.size) (hc : (txs l).toArray = cs) : ReadsT (w.alloc (.cells cs e fr)) (some ⟨g, 0, none⟩) l := by
  subst hg hc
  refine .inr ⟨_, _, rfl, by simp, fun k hk => ?_⟩
  rw [World.cell?_alloc_mark]
  simp [txs, hk, List.getD]

/-- A slice value that the call owns: its texts. -/
def OwnT (w : World) (base : Nat) (v : Value) (l : List (List UInt8)) : Prop := w.ownsRow base 9 1 v l.length (txs l)
theorem OwnT.nil (w : World) (base : Nat) : OwnT w base (.slice none 0 0) [] := World.ownsRow_nil w base _ 1
theorem OwnT.alloc {w : World} {base : Nat} {v : Value} {l : List (List UInt8)} (h : OwnT w base v l) (o : Obj) : OwnT (w.alloc o) base v l := World.ownsRow.alloc h o
theorem OwnT.drewN {w : World} {base : Nat} {v : Value} {l : List (List UInt8)} (h : OwnT w base v l) (n : Nat) : OwnT (w.drewN n) base v l := h
theorem OwnT.lt {w : World} {base : Nat} {v : Value} {l : List (List UInt8)} (h : OwnT w base v l) : ∀ k, v.ownBlock = some k → base ≤ k ∧ k < w.heap.size := World.ownsRow.lt h
theorem OwnT.below {w w' : World} {base C : Nat} {v : Value} {l : List (List UInt8)} (h : OwnT w base v l) (hb : Below C w w') (hC : w.heap.size ≤ C) : OwnT w' base v l := by
  obtain ⟨h1, h2⟩ := h
  refine ⟨h1, ?_⟩
  rcases h2 with h2 | ⟨g, cap, cur, hv, hg, hh, r⟩
  · exact .inl h2
  · have hlt : g < w.heap.size := by
      rcases Nat.lt_or_ge g w.heap.size with h | h
      · exact h
      · rw [Array.getElem?_eq_none h] at hh; cases hh
    exact .inr ⟨g, cap, cur, hv, hg, (hb.block g (by omega)).trans hh, r⟩
theorem OwnT.mono {w : World} {base base' : Nat} {v : Value} {l : List (List UInt8)} (h : OwnT w base v l) (hb : base' ≤ base) : OwnT w base' v l := by
  obtain ⟨h1, h2⟩ := h
  refine ⟨h1, ?_⟩
  rcases h2 with h2 | ⟨g, cap, cur, hv, hg, r⟩
  · exact .inl h2
  · exact .inr ⟨g, cap, cur, hv, by omega, r⟩
/-- What is owned is a slice that reads as its texts. -/
theorem OwnT.reads {w : World} {base : Nat} {v : Value} {l : List (List UInt8)} (h : OwnT w base v l) : ∃ A c, v = .slice A l.length c ∧ ReadsT w A l ∧ (A = none → l = [] ∧ c = 0) ∧ l.length ≤ c ∧ c ≤ 9223372036854775807 := by
  obtain ⟨_, h2⟩ := h
  rcases h2 with ⟨rfl, h0⟩ | ⟨g, cap, cur, rfl, hg, hh, hn, hm, hs, ht⟩
  · obtain rfl := List.eq_nil_of_length_eq_zero h0
    exact ⟨none, 0, rfl, .inl rfl, fun _ => ⟨rfl, rfl⟩, by simp, by omega⟩
  · refine ⟨_, _, rfl, .inr ⟨g, 0, rfl, ?_, fun k hk => ?_⟩, (fun e => by cases e), hn, by simp only [maxLen] at hm; omega⟩
    · rcases Nat.lt_or_ge g w.heap.size with h | h
      · exact h
      · rw [Array.getElem?_eq_none h] at hh; cases hh
    · have e : cur.toList[k]? = some (encStr l[k]) := by
        have e2 : (cur.toList.take (l.length * 1))[k]? = some (encStr l[k]) := by rw [ht]; simp [txs, hk]
        rw [List.getElem?_take] at e2
        rwa [if_pos (by omega)] at e2
      have e3 : cur[k]? = some (encStr l[k]) := by simpa using e
      simp only [World.cell?, hh, Nat.zero_add]
      rw [e3]
      simp [List.getD, hk]
section
variable {w : World} {ops : Array Oper} {rest : List Oper} {o : Oper} {a : Act} {Q : Exit → Act → World → Prop}
end

/-- Where it owns them, a new row grows. -/
theorem OwnT.kept {w w' : World} {base : Nat} {v : Value} {l : List (List UInt8)} {row : Option Nat} (h : OwnT w base v l) (hg : w.grownBy w' row) (hne : v.ownBlock = none ∨ v.ownBlock ≠ row) : OwnT w' base v l := World.ownsRow.kept h hg hne

end Go.Proofs.YtegaahcelogmlaaGreatDoor

namespace Go.Proofs.YtegaahcelogmlaaGreatDoor.Nm

/-- A digit's byte. -/
def dc (d : Nat) : UInt8 := UInt8.ofNat (48 + d % 10)
theorem dc_toNat (d : Nat) : (dc d).toNat = 48 + d % 10 := by
  unfold dc
  rw [UInt8.toNat_ofNat']
  omega
theorem dc_lt (a b : Nat) : dc a < dc b ↔ a % 10 < b % 10 := by
  rw [UInt8.lt_iff_toNat_lt, dc_toNat, dc_toNat]
  omega
theorem dc_inj (a b : Nat) (h : dc a = dc b) : a % 10 = b % 10 := by
  have := congrArg UInt8.toNat h
  rw [dc_toNat, dc_toNat] at this
  omega
/-- A number in so many digits. -/
def dgs : Nat → Nat → List UInt8
  | 0, _ => []
  | k + 1, u => dgs k (u / 10) ++ [dc u]
theorem dgs_length : ∀ (k u : Nat), (dgs k u).length = k
  | 0, _ => rfl
  | k + 1, u => by simp [dgs, dgs_length k]
theorem dgs_front : ∀ (k u : Nat), dgs (k + 1) u = dc (u / 10 ^ k) :: dgs k u
  | 0, u => by simp [dgs]
  | k + 1, u => by
    show dgs (k + 1) (u / 10) ++ [dc u] = _
    rw [dgs_front k (u / 10), Nat.div_div_eq_div_mul, ← Nat.pow_succ']
    rfl
theorem dgs_zero : ∀ k : Nat, dgs k 0 = List.replicate k 48
  | 0 => rfl
  | k + 1 => by
    show dgs k (0 / 10) ++ [dc 0] = _
    rw [Nat.zero_div, dgs_zero k, List.replicate_succ']
    rfl
theorem dgs_small {k u : Nat} (h : u < 10) : dgs (k + 1) u = List.replicate k 48 ++ Lib.decDigits u := by
  show dgs k (u / 10) ++ [dc u] = _
  rw [Nat.div_eq_of_lt h, dgs_zero, Lib.decDigits_one h]
  unfold dc
  rw [Nat.mod_eq_of_lt h]
theorem decDigits_big {u : Nat} (h : ¬ u < 10) : Lib.decDigits u = Lib.decDigits (u / 10) ++ [dc u] := by
  rw [Lib.decDigits, dif_neg h]; rfl
/-- The numeral, filled up with noughts. -/
theorem dgs_pad : ∀ (k u : Nat), u < 10 ^ (k + 1) → (Lib.decDigits u).length ≤ k + 1 ∧ List.replicate (k + 1 - (Lib.decDigits u).length) 48 ++ Lib.decDigits u = dgs (k + 1) u
  | 0, u, h => by
    have h1 : u < 10 := by simpa using h
    rw [dgs_small h1, Lib.decDigits_one h1]
    simp
  | k + 1, u, h => by
    by_cases h1 : u < 10
    · rw [dgs_small h1, Lib.decDigits_one h1]
      simp
    · have h2 : u / 10 < 10 ^ (k + 1) := by rw [Nat.pow_succ] at h; omega
      obtain ⟨l1, l2⟩ := dgs_pad k (u / 10) h2
      rw [decDigits_big h1]
      refine ⟨by simp; omega, ?_⟩
      rw [List.length_append, ← List.append_assoc]
      show _ = dgs (k + 1) (u / 10) ++ [dc u]
      rw [← l2]
      simp
/-- How a text of digits is read on. -/
def val (acc : Nat) (l : List UInt8) : Nat := l.foldl (fun a c => a * 10 + (c.toNat - 48)) acc
def digit (c : UInt8) : Prop := 48 ≤ c.toNat ∧ c.toNat ≤ 57
theorem dc_digit (d : Nat) : digit (dc d) := by unfold digit; rw [dc_toNat]; omega
theorem dgs_digit : ∀ (k u : Nat), ∀ c ∈ dgs k u, digit c
  | 0, _, c, h => by simp [dgs] at h
  | k + 1, u, c, h => by
    rcases List.mem_append.1 h with h | h
    · exact dgs_digit k _ c h
    · rw [List.mem_singleton.1 h]; exact dc_digit u
theorem val_snoc (acc : Nat) (l : List UInt8) (c : UInt8) : val acc (l ++ [c]) = val acc l * 10 + (c.toNat - 48) := by simp [val]
theorem val_dgs : ∀ (k u : Nat), u < 10 ^ k → val 0 (dgs k u) = u
  | 0, u, h => by simp [dgs, val] at *; omega
  | k + 1, u, h => by
    show val 0 (dgs k (u / 10) ++ [dc u]) = u
    rw [val_snoc, val_dgs k (u / 10) (by rw [Nat.pow_succ] at h; omega), dc_toNat]
    omega
theorem val_lt : ∀ (l : List UInt8) (acc : Nat), (∀ c ∈ l, digit c) → val acc l < (acc + 1) * 10 ^ l.length
  | [], acc, _ => by simp [val]
  | c :: l, acc, h => by
    have hc := h c (List.mem_cons_self ..)
    have hi := val_lt l (acc * 10 + (c.toNat - 48)) fun x hx => h x (List.mem_cons_of_mem _ hx)
    unfold digit at hc
    have e : val acc (c :: l) = val (acc * 10 + (c.toNat - 48)) l := rfl
    rw [e]
    refine Nat.lt_of_lt_of_le hi ?_
    rw [List.length_cons, Nat.pow_succ', ← Nat.mul_assoc]
    exact Nat.mul_le_mul_right _ (by omega)
theorem dgs_val : ∀ (k : Nat) (l : List UInt8), l.length = k → (∀ c ∈ l, digit c) → dgs k (val 0 l) = l
  | 0, l, hl, _ => by rw [List.length_eq_zero_iff.1 hl]; rfl
  | k + 1, l, hl, h => by
    have hne : l ≠ [] := fun e => by rw [e] at hl; simp at hl
    obtain ⟨a, c, rfl⟩ : ∃ a c, l = a ++ [c] := ⟨l.dropLast, l.getLast hne, (List.dropLast_concat_getLast hne).symm⟩
    have ih := dgs_val k a (by simpa using hl) fun x hx => h x (List.mem_append_left _ hx)
    have hc : digit c := h c (List.mem_append_right _ (List.mem_singleton.2 rfl))
    unfold digit at hc
    show dgs k (val 0 (a ++ [c]) / 10) ++ [dc (val 0 (a ++ [c]))] = _
    rw [val_snoc, show (val 0 a * 10 + (c.toNat - 48)) / 10 = val 0 a by omega, ih]
    congr 2
    apply UInt8.toNat_inj.1
    rw [dc_toNat]
    omega
theorem dgs_mod : ∀ k u : Nat, dgs k (u % 10 ^ k) = dgs k u
  | 0, _ => rfl
  | k + 1, u => by
    show dgs k (u % 10 ^ (k + 1) / 10) ++ [dc (u % 10 ^ (k + 1))] = dgs k (u / 10) ++ [dc u]
    have h1 : u % 10 ^ (k + 1) / 10 = u / 10 % 10 ^ k := by rw [Nat.pow_succ', Nat.mod_mul_right_div_self]
    have h2 : dc (u % 10 ^ (k + 1)) = dc u := by
      apply UInt8.toNat_inj.1
      rw [dc_toNat, dc_toNat, Nat.pow_succ', Nat.mod_mul_right_mod]
    rw [h1, h2, dgs_mod k]
theorem dgs_lt : ∀ k u v : Nat, u < 10 ^ k → v < 10 ^ k → (dgs k u < dgs k v ↔ u < v)
  | 0, u, v, hu, hv => by
    have : u = 0 := by simpa using hu
    have : v = 0 := by simpa using hv
    subst_vars
    simp [dgs]
  | k + 1, u, v, hu, hv => by
    have hp : 0 < 10 ^ k := Nat.pow_pos (by decide)
    have hq : u / 10 ^ k < 10 ∧ v / 10 ^ k < 10 := by rw [Nat.pow_succ] at hu hv; exact ⟨Nat.div_lt_of_lt_mul hu, Nat.div_lt_of_lt_mul hv⟩
    rw [dgs_front, dgs_front, List.cons_lt_cons_iff, dc_lt, ← dgs_mod k u, ← dgs_mod k v, dgs_lt k _ _ (Nat.mod_lt _ hp) (Nat.mod_lt _ hp), Nat.mod_eq_of_lt hq.1, Nat.mod_eq_of_lt hq.2]
    have e1 := Nat.div_add_mod u (10 ^ k)
    have e2 := Nat.div_add_mod v (10 ^ k)
    have m1 := Nat.mod_lt u hp
    have m2 := Nat.mod_lt v hp
    generalize 10 ^ k = p at *
    generalize u / p = a at *
    generalize v / p = b at *
    generalize u % p = c at *
    generalize v % p = d at *
    have hm : ∀ x y : Nat, x < y → p * x + p ≤ p * y := fun x y h => by have := Nat.mul_le_mul_left p (Nat.succ_le_of_lt h); rw [Nat.mul_succ] at this; exact this
    constructor
    · rintro (h | ⟨h1, h2⟩)
      · have := hm a b h; omega
      · have h3 := dc_inj a b h1
        rw [Nat.mod_eq_of_lt hq.1, Nat.mod_eq_of_lt hq.2] at h3
        subst h3; omega
    · intro h
      rcases Nat.lt_trichotomy a b with h3 | h3 | h3
      · exact .inl h3
      · subst h3; exact .inr ⟨rfl, by omega⟩
      · have := hm b a h3; omega
theorem dgs_inj (k u v : Nat) (hu : u < 10 ^ k) (hv : v < 10 ^ k) (h : dgs k u = dgs k v) : u = v := by rw [← val_dgs k u hu, h, val_dgs k v hv]

theorem parseM_digits : ∀ (l : List UInt8) (acc : Nat), (∀ c ∈ l, digit c) → (acc + 1) * 10 ^ l.length ≤ 1000000000000000000 → Lib.parseUintM 18446744073709551615 acc l = .ok (val acc l)
  | [], _, _, _ => rfl
  | c :: l, acc, h, hb => by
    have hc := h c (List.mem_cons_self ..)
    have h10 : 1 ≤ 10 ^ l.length := Nat.pow_pos (by decide)
    rw [List.length_cons, Nat.pow_succ', ← Nat.mul_assoc] at hb
    have hacc : (acc + 1) * 10 ≤ 1000000000000000000 := Nat.le_trans (Nat.le_mul_of_pos_right _ h10) hb
    unfold Lib.parseUintM
    unfold digit at hc
    rw [if_pos hc, if_neg (by omega), if_neg (by omega)]
    rw [parseM_digits l _ (fun x hx => h x (List.mem_cons_of_mem _ hx)) (Nat.le_trans (Nat.mul_le_mul_right _ (by omega)) hb)]
    rfl
theorem digits_parse (l : List UInt8) (h : ∀ c ∈ l, digit c) (hne : l ≠ []) (hl : l.length ≤ 18) : Lib.parseIntB 64 l = .ok (val 0 l) ∧ Lib.atoiAll l = .ok (val 0 l) := by
  have hp : 10 ^ l.length ≤ 10 ^ 18 := Nat.pow_le_pow_right (by decide) hl
  have hM := parseM_digits l 0 h (by simpa using hp)
  have hv := val_lt l 0 h
  have hv2 : val 0 l < 1000000000000000000 := by omega
  cases l with
  | nil => exact absurd rfl hne
  | cons c r =>
    have hc := h c (List.mem_cons_self ..)
    unfold digit at hc
    constructor
    · rw [Lib.parseIntB_plain 64 c r (by omega) (by omega)]
      unfold Lib.parseUintB
      rw [if_neg (by simp)]
      show Lib.signlessC _ (Lib.parseUintM 18446744073709551615 0 (c :: r)) = _
      rw [hM]
      unfold Lib.signlessC
      have : ¬ (2 ^ (64 - 1) ≤ val 0 (c :: r)) := by
        have : (2 ^ (64 - 1) : Nat) = 9223372036854775808 := by decide
        omega
      simp only [this, if_false]
    · rw [Lib.atoiAll_plain c r (by omega) (by omega)]
      unfold Lib.parseMag
      rw [if_neg (by simp), ← Lib.parseUintM_64, hM]
      unfold Lib.signless
      have : ¬ (9223372036854775808 ≤ val 0 (c :: r)) := by omega
      simp only [this, if_false]

/-! Cut at dashes. -/
theorem index_dash : ∀ (x r : List UInt8), 45 ∉ x → Lib.index (x ++ 45 :: r) [45] = x.length
  | [], r, _ => by simp [Lib.index]
  | b :: x, r, h => by
    have hb : b ≠ 45 := fun e => h (e ▸ List.mem_cons_self ..)
    have hi := index_dash x r fun e => h (List.mem_cons_of_mem _ e)
    show Lib.index (b :: (x ++ 45 :: r)) [45] = _
    unfold Lib.index
    rw [hi, if_neg (by simp; exact fun e => hb e.symm), if_neg (by simp <;> omega)]
    simp
theorem split_dash (k : Nat) (x r : List UInt8) (h : 45 ∉ x) : Lib.splitK [45] 0 (k + 1) (x ++ 45 :: r) = x :: Lib.splitK [45] 0 k r := by
  have hi := index_dash x r h
  show (if Lib.index (x ++ 45 :: r) [45] == -1 then _ else _) = _
  rw [hi, if_neg (by simp <;> omega)]
  simp

/-! Lists of one length, one behind the other. -/
theorem append_lt : ∀ (a b x y : List UInt8), a.length = b.length → (a ++ x < b ++ y ↔ a < b ∨ (a = b ∧ x < y))
  | [], [], x, y, _ => by simp
  | [], _ :: _, _, _, h => by simp at h
  | _ :: _, [], _, _, h => by simp at h
  | c :: a, d :: b, x, y, h => by
    have ih := append_lt a b x y (by simpa using h)
    simp only [List.cons_append, List.cons_lt_cons_iff, ih, List.cons.injEq]
    constructor
    · rintro (h1 | ⟨h1, h2 | ⟨h2, h3⟩⟩)
      · exact .inl (.inl h1)
      · exact .inl (.inr ⟨h1, h2⟩)
      · exact .inr ⟨⟨h1, h2⟩, h3⟩
    · rintro ((h1 | ⟨h1, h2⟩) | ⟨⟨h1, h2⟩, h3⟩)
      · exact .inl h1
      · exact .inr ⟨h1, .inl h2⟩
      · exact .inr ⟨h1, .inr ⟨h2, h3⟩⟩

/-! Names. -/
def right (b : Int) : Prop := 0 ≤ b ∧ b ≤ 1099511627776
instance (b : Int) : Decidable (right b) := inferInstanceAs (Decidable (_ ∧ _))
/-- `log-` -/
def log : List UInt8 := [108, 111, 103, 45]
def segN (b : Nat) : List UInt8 := log ++ dgs 13 b
def seg (b : Int) : List UInt8 := if right b then segN b.toNat else []
def letter (c : UInt8) : Bool := 97 ≤ c && c ≤ 122
def kindly (s : List UInt8) : Bool := decide (1 ≤ s.length) && decide (s.length ≤ 8) && s.all letter
def idly (i : Int) : Prop := 0 ≤ i ∧ i ≤ 2147483647
instance (b : Int) : Decidable (idly b) := inferInstanceAs (Decidable (_ ∧ _))
/-- `seg-` -/
def seg4 : List UInt8 := [115, 101, 103, 45]
def objN (i : Nat) (k : List UInt8) (b : Nat) : List UInt8 := seg4 ++ (dgs 10 i ++ (45 :: (k ++ (45 :: dgs 13 b))))
def obj (i : Int) (k : List UInt8) (b : Int) : List UInt8 := if idly i ∧ kindly k = true ∧ right b then objN i.toNat k b.toNat else []
theorem segN_length (b : Nat) : (segN b).length = 17 := by simp [segN, log, dgs_length]
theorem objN_length (i : Nat) (k : List UInt8) (b : Nat) : (objN i k b).length = 29 + k.length := by simp [objN, seg4, dgs_length]; omega
theorem right_lt {b : Int} (h : right b) : b.toNat < 10 ^ 13 := by unfold right at h; omega
theorem idly_lt {b : Int} (h : idly b) : b.toNat < 10 ^ 10 := by unfold idly at h; omega
theorem segN_lt (a b : Nat) (ha : a < 10 ^ 13) (hb : b < 10 ^ 13) : segN a < segN b ↔ a < b := by
  unfold segN
  rw [append_lt _ _ _ _ rfl, dgs_lt 13 a b ha hb]
  constructor
  · rintro (h | h)
    · exact absurd h (List.lt_irrefl _)
    · exact h.2
  · exact fun h => .inr ⟨rfl, h⟩
theorem segN_inj (a b : Nat) (ha : a < 10 ^ 13) (hb : b < 10 ^ 13) (h : segN a = segN b) : a = b := dgs_inj 13 a b ha hb (List.append_cancel_left h)
theorem dash_dgs (k u : Nat) : 45 ∉ dgs k u := fun h => by have := dgs_digit k u _ h; unfold digit at this; simp at this
theorem dash_kind (k : List UInt8) (h : kindly k = true) : 45 ∉ k := fun hm => by
  unfold kindly at h
  simp only [Bool.and_eq_true, List.all_eq_true] at h
  have := h.2 _ hm
  simp [letter] at this
theorem split_obj (i : Nat) (k : List UInt8) (b : Nat) (hk : kindly k = true) : Lib.splitK [45] 0 3 (objN i k b) = [[115, 101, 103], dgs 10 i, k, dgs 13 b] := by
  have e : objN i k b = [115, 101, 103] ++ 45 :: (dgs 10 i ++ 45 :: (k ++ 45 :: dgs 13 b)) := rfl
  rw [e, split_dash 2 _ _ (by decide), split_dash 1 _ _ (dash_dgs _ _), split_dash 0 _ _ (dash_kind k hk)]
  rfl
end Go.Proofs.YtegaahcelogmlaaGreatDoor.Nm

namespace Go.Proofs.YtegaahcelogmlaaGreatDoor.Nm

abbrev Tx := List UInt8
theorem tx_tri (a b : Tx) : a < b ∨ a = b ∨ b < a := by
  by_cases h1 : a < b
  · exact .inl h1
  · by_cases h2 : b < a
    · exact .inr (.inr h2)
    · exact .inr (.inl (List.le_antisymm (List.not_lt.1 h2) (List.not_lt.1 h1)))
/-- Two lists that rise, with the same members, are one. -/
theorem strict_ext : ∀ (a b : List Tx), a.Pairwise (· < ·) → b.Pairwise (· < ·) → (∀ x, x ∈ a ↔ x ∈ b) → a = b
  | [], [], _, _, _ => rfl
  | [], y :: b, _, _, h => absurd ((h y).2 (List.mem_cons_self ..)) List.not_mem_nil
  | x :: a, [], _, _, h => absurd ((h x).1 (List.mem_cons_self ..)) List.not_mem_nil
  | x :: a, y :: b, ha, hb, h => by
    rw [List.pairwise_cons] at ha hb
    have hxy : x = y := by
      rcases List.mem_cons.1 ((h x).1 (List.mem_cons_self ..)) with e | e
      · exact e
      · rcases List.mem_cons.1 ((h y).2 (List.mem_cons_self ..)) with e2 | e2
        · exact e2.symm
        · exact absurd (List.lt_trans (hb.1 x e) (ha.1 y e2)) (List.lt_irrefl _)
    subst hxy
    rw [strict_ext a b ha.2 hb.2 fun z => ?_]
    constructor
    · intro hz
      rcases List.mem_cons.1 ((h z).1 (List.mem_cons_of_mem _ hz)) with e | e
      · subst e; exact absurd (ha.1 _ hz) (List.lt_irrefl _)
      · exact e
    · intro hz
      rcases List.mem_cons.1 ((h z).2 (List.mem_cons_of_mem _ hz)) with e | e
      · subst e; exact absurd (hb.1 _ hz) (List.lt_irrefl _)
      · exact e
/-- Put in place, once. -/
def ins (x : Tx) : List Tx → List Tx
  | [] => [x]
  | y :: l => if y < x then y :: ins x l else if y = x then y :: l else x :: y :: l
theorem mem_ins (x z : Tx) : ∀ l, z ∈ ins x l ↔ z = x ∨ z ∈ l
  | [] => by simp [ins]
  | y :: l => by
    unfold ins
    split
    · rw [List.mem_cons, mem_ins x z l, List.mem_cons]
      constructor
      · rintro (h | h | h)
        · exact .inr (.inl h)
        · exact .inl h
        · exact .inr (.inr h)
      · rintro (h | h | h)
        · exact .inr (.inl h)
        · exact .inl h
        · exact .inr (.inr h)
    · split
      · rename_i e; subst e; simp
      · simp
theorem ins_rises (x : Tx) : ∀ l, l.Pairwise (· < ·) → (ins x l).Pairwise (· < ·)
  | [], _ => by simp [ins]
  | y :: l, h => by
    rw [List.pairwise_cons] at h
    unfold ins
    split
    · rename_i hlt
      rw [List.pairwise_cons]
      refine ⟨fun z hz => ?_, ins_rises x l h.2⟩
      rcases (mem_ins x z l).1 hz with e | e
      · subst e; exact hlt
      · exact h.1 z e
    · rename_i hlt
      split
      · rw [List.pairwise_cons]; exact h
      · rename_i hne
        have hxy : x < y := by
          rcases tx_tri y x with e | e | e
          · exact absurd e hlt
          · exact absurd e hne
          · exact e
        rw [List.pairwise_cons, List.pairwise_cons]
        refine ⟨fun z hz => ?_, h⟩
        rcases List.mem_cons.1 hz with e | e
        · subst e; exact hxy
        · exact List.lt_trans hxy (h.1 z e)
def rising (l : List Tx) : List Tx := l.foldl (fun o x => ins x o) []
theorem rising_go : ∀ (l o : List Tx), o.Pairwise (· < ·) → (l.foldl (fun o x => ins x o) o).Pairwise (· < ·) ∧ ∀ z, z ∈ l.foldl (fun o x => ins x o) o ↔ z ∈ o ∨ z ∈ l
  | [], o, h => ⟨h, fun z => by simp⟩
  | x :: l, o, h => by
    obtain ⟨h1, h2⟩ := rising_go l (ins x o) (ins_rises x o h)
    refine ⟨h1, fun z => ?_⟩
    rw [List.foldl_cons, h2 z, mem_ins, List.mem_cons]
    constructor
    · rintro ((h | h) | h)
      · exact .inr (.inl h)
      · exact .inl h
      · exact .inr (.inr h)
    · rintro (h | h | h)
      · exact .inl (.inr h)
      · exact .inl (.inl h)
      · exact .inr h
theorem rising_rises (l : List Tx) : (rising l).Pairwise (· < ·) := (rising_go l [] List.Pairwise.nil).1
theorem mem_rising (l : List Tx) (z : Tx) : z ∈ rising l ↔ z ∈ l := by
  have := (rising_go l [] List.Pairwise.nil).2 z
  simpa [rising] using this
/-- Sorted texts made compact rise; the members are the same. -/
theorem compact_go (d : Array Tx) (hs : ∀ i j, i < j → j < d.size → d[i]! ≤ d[j]!) : ∀ m, m ≤ d.size → (Lib.compactUpTo d m).Pairwise (· < ·) ∧ (∀ z ∈ Lib.compactUpTo d m, ∃ j, j < m ∧ z = d[j]!) ∧ (∀ j, j < m → d[j]! ∈ Lib.compactUpTo d m)
  | 0, _ => ⟨by simp [Lib.compactUpTo], by simp [Lib.compactUpTo], fun j h => absurd h (Nat.not_lt_zero _)⟩
  | m + 1, hm => by
    obtain ⟨h1, h2, h3⟩ := compact_go d hs m (by omega)
    rw [Lib.compactUpTo_succ]
    by_cases hk : Lib.keeps d m = true
    · rw [if_pos hk]
      refine ⟨?_, ?_, ?_⟩
      · rw [List.pairwise_append]
        refine ⟨h1, List.pairwise_singleton _ _, fun a ha b hb => ?_⟩
        rw [List.mem_singleton.1 hb]
        obtain ⟨j, hj, rfl⟩ := h2 a ha
        have hle := hs j m hj (by omega)
        rcases tx_tri d[j]! d[m]! with e | e | e
        · exact e
        · exfalso
          have hm0 : 0 < m := by omega
          unfold Lib.keeps at hk
          have hne : d[m]! ≠ d[m - 1]! := by
            rcases of_decide_eq_true hk with e2 | e2
            · omega
            · exact e2
          apply hne
          have h4 := hs (m - 1) m (by omega) (by omega)
          have h5 : d[j]! ≤ d[m - 1]! := by
            by_cases e3 : j = m - 1
            · rw [e3]; exact List.le_refl _
            · exact hs j (m - 1) (by omega) (by omega)
          rw [e] at h5
          exact List.le_antisymm h5 h4
        · exact absurd e (List.not_lt.2 hle)
      · intro z hz
        rcases List.mem_append.1 hz with e | e
        · obtain ⟨j, hj, rfl⟩ := h2 z e; exact ⟨j, by omega, rfl⟩
        · exact ⟨m, by omega, List.mem_singleton.1 e⟩
      · intro j hj
        by_cases e : j = m
        · subst e; exact List.mem_append_right _ (List.mem_singleton.2 rfl)
        · exact List.mem_append_left _ (h3 j (by omega))
    · rw [if_neg hk, List.append_nil]
      refine ⟨h1, fun z hz => ?_, fun j hj => ?_⟩
      · obtain ⟨j, hj, rfl⟩ := h2 z hz; exact ⟨j, by omega, rfl⟩
      · by_cases e : j = m
        · subst e
          unfold Lib.keeps at hk
          have h5 : ¬ (j = 0 ∨ d[j]! ≠ d[j - 1]!) := fun h => hk (decide_eq_true h)
          have h6 : j ≠ 0 := fun h => h5 (.inl h)
          have h7 : d[j]! = d[j - 1]! := Classical.byContradiction fun h => h5 (.inr h)
          rw [h7]
          exact h3 (j - 1) (by omega)
        · exact h3 j (by omega)
theorem compact_rising (l zs : List Tx) (hp : ∀ z, z ∈ zs ↔ z ∈ l) (hs : zs.Pairwise (· ≤ ·)) : Lib.compact zs = rising l := by
  have ha : ∀ i, (h : i < zs.length) → zs.toArray[i]! = zs[i] := fun i h => by simp [h]
  obtain ⟨h1, h2, h3⟩ := compact_go zs.toArray (fun i j hij hj => by
    have hj' : j < zs.length := by simpa using hj
    rw [ha i (by omega), ha j hj']
    exact List.pairwise_iff_getElem.1 hs i j (by omega) hj' hij) zs.length (by simp)
  refine strict_ext _ _ h1 (rising_rises l) fun x => ?_
  rw [mem_rising, ← hp]
  constructor
  · intro hx
    obtain ⟨j, hj, rfl⟩ := h2 x hx
    rw [ha j hj]
    exact List.getElem_mem _
  · intro hx
    obtain ⟨j, hj, rfl⟩ := List.mem_iff_getElem.1 hx
    rw [← ha j hj]
    exact h3 j hj
theorem compact_le (zs : List Tx) : (Lib.compact zs).length ≤ zs.length := by
  unfold Lib.compact Lib.compactUpTo
  rw [List.length_map]
  exact Nat.le_trans (List.length_filter_le _ _) (by simp)
end Go.Proofs.YtegaahcelogmlaaGreatDoor.Nm

namespace Go.Proofs.YtegaahcelogmlaaGreatDoor
open Go.RowKit Go.Maps Go.Sort

/-- These are the numbers, or the names, at which there is anything, rising. -/
def St.ListsI {α : Type} (f : Int → Option α) (l : List Int) : Prop := l.Pairwise (· < ·) ∧ ∀ x, x ∈ l ↔ f x ≠ none
def St.ListsS {α : Type} (f : List UInt8 → Option α) (l : List (List UInt8)) : Prop := l.Pairwise (· < ·) ∧ ∀ x, x ∈ l ↔ f x ≠ none
def OwnZ (w : World) (base : Nat) (v : Value) (l : List Int) : Prop := w.ownsRow base 3 1 v l.length (l.map (.int .i64 ·))

theorem keysI_lists {w : World} {b nn : Nat} {D0 : DataW Value} {f : Int → Option Value} (hown : w.ownsMap Tryz.prog 3 heldE b nn D0) (hat0 : ∀ k zd, D0.atKey (.int .i64 k) zd = heldV (f k) zd) {ss : List Int} (h : ss.Perm (intKeys D0)) :
    St.ListsI f (ss.mergeSort fun x y => decide (x ≤ y)) := by
  obtain ⟨es, hD, hpw, _⟩ := hown.entries intK
  obtain ⟨es', hD', hko⟩ := hown.keysOf
  obtain rfl : es = es' := by rw [hD] at hD'; simpa using hD'
  subst hD
  have hk : ∀ p ∈ es, ∃ x, p.1 = .int .i64 x := fun p hp => by
    obtain ⟨v, hv⟩ := hko p hp
    obtain ⟨x, _, hx, _⟩ := Maps.keyOf_int_inv Tryz.underlying3 hv
    exact ⟨x, hx⟩
  have hnd : (intKeys (.map es)).Nodup := by
    show (es.map fun p => Go.intOf p.1).Nodup
    refine List.pairwise_map.2 (hpw.imp_of_mem fun {p q} hp hq hne e => hne ?_)
    obtain ⟨x, hx⟩ := hk p hp
    obtain ⟨y, hy⟩ := hk q hq
    rw [hx, hy] at e ⊢
    exact congrArg _ e
  have hmem : ∀ x, x ∈ intKeys (.map es) ↔ f x ≠ none := fun x => by
    have h1 := hasV (mk := fun k : Int => Lit.int .i64 k) hat0 x
    have h2 : f x ≠ none ↔ Maps.has (.map es) (Lit.int .i64 x) = true := by rw [h1]; cases f x <;> simp
    rw [h2, has_eq, List.any_eq_true]
    show x ∈ es.map (fun p => Go.intOf p.1) ↔ _
    rw [List.mem_map]
    constructor
    · rintro ⟨p, hp, rfl⟩
      obtain ⟨y, hy⟩ := hk p hp
      exact ⟨p, hp, by rw [hy]; simp [Lit.sameKey, Go.intOf]⟩
    · rintro ⟨p, hp, hs⟩
      obtain ⟨y, hy⟩ := hk p hp
      rw [hy] at hs
      exact ⟨p, hp, by rw [hy]; simpa [Lit.sameKey, Go.intOf] using hs⟩
  have hp2 : (ss.mergeSort fun x y => decide (x ≤ y)).Perm (intKeys (.map es)) := (List.mergeSort_perm ss _).trans h
  refine ⟨?_, fun x => (hp2.mem_iff).trans (hmem x)⟩
  have hle : (ss.mergeSort fun x y => decide (x ≤ y)).Pairwise (fun a b => decide (a ≤ b) = true) :=
    List.pairwise_mergeSort (fun a b c h1 h2 => by simp only [decide_eq_true_eq] at *; omega) (fun a b => by simp only [Bool.or_eq_true, decide_eq_true_eq]; omega) ss
  have hne : (ss.mergeSort fun x y => decide (x ≤ y)).Nodup := hp2.nodup_iff.2 hnd
  refine (hle.and hne).imp fun {a b} hab => ?_
  have h1 : a ≤ b := of_decide_eq_true hab.1
  have h2 := hab.2
  omega
theorem keysS_lists {w : World} {b nn : Nat} {D0 : DataW Value} {f : List UInt8 → Option Value} (hown : w.ownsMap Tryz.prog 9 heldE b nn D0) (hat0 : ∀ k zd, D0.atKey (.string k) zd = heldV (f k) zd) {ss : List (List UInt8)} (h : ss.Perm (strKeys D0)) :
    St.ListsS f (ss.mergeSort fun x y => decide (x ≤ y)) := by
  obtain ⟨es, hD, hpw, _⟩ := hown.entries strK
  obtain ⟨es', hD', hko⟩ := hown.keysOf
  obtain rfl : es = es' := by rw [hD] at hD'; simpa using hD'
  subst hD
  have hk : ∀ p ∈ es, ∃ x, p.1 = .string x := fun p hp => by
    obtain ⟨v, hv⟩ := hko p hp
    obtain ⟨x, _, hx, _⟩ := Maps.keyOf_str Tryz.underlying9 hv
    exact ⟨x, hx⟩
  have hnd : (strKeys (.map es)).Nodup := by
    show (es.map fun p => strOf p.1).Nodup
    refine List.pairwise_map.2 (hpw.imp_of_mem fun {p q} hp hq hne e => hne ?_)
    obtain ⟨x, hx⟩ := hk p hp
    obtain ⟨y, hy⟩ := hk q hq
    rw [hx, hy] at e ⊢
    exact congrArg _ e
  have hmem : ∀ x, x ∈ strKeys (.map es) ↔ f x ≠ none := fun x => by
    have h1 := hasV (mk := fun k : List UInt8 => Lit.string k) hat0 x
    have h2 : f x ≠ none ↔ Maps.has (.map es) (Lit.string x) = true := by rw [h1]; cases f x <;> simp
    rw [h2, has_eq, List.any_eq_true]
    show x ∈ es.map (fun p => strOf p.1) ↔ _
    rw [List.mem_map]
    constructor
    · rintro ⟨p, hp, rfl⟩
      obtain ⟨y, hy⟩ := hk p hp
      exact ⟨p, hp, by rw [hy]; simp [Lit.sameKey, strOf]⟩
    · rintro ⟨p, hp, hs⟩
      obtain ⟨y, hy⟩ := hk p hp
      rw [hy] at hs
      exact ⟨p, hp, by rw [hy]; simpa [Lit.sameKey, strOf] using hs⟩
  have hp2 : (ss.mergeSort fun x y => decide (x ≤ y)).Perm (strKeys (.map es)) := (List.mergeSort_perm ss _).trans h
  refine ⟨?_, fun x => (hp2.mem_iff).trans (hmem x)⟩
  have hle : (ss.mergeSort fun x y => decide (x ≤ y)).Pairwise (fun a b => decide (a ≤ b) = true) :=
    List.pairwise_mergeSort (fun a b c h1 h2 => by simp only [decide_eq_true_eq] at *; exact List.le_trans h1 h2) (fun a b => by simp only [Bool.or_eq_true, decide_eq_true_eq]; exact List.le_total a b) ss
  have hne : (ss.mergeSort fun x y => decide (x ≤ y)).Nodup := hp2.nodup_iff.2 hnd
  refine (hle.and hne).imp fun {a b} hab => ?_
  have h1 : a ≤ b := of_decide_eq_true hab.1
  rcases Nm.tx_tri a b with e | e | e
  · exact e
  · exact absurd e hab.2
  · exact absurd e (List.not_lt.2 h1)

theorem OwnZ.mono {w : World} {base base' : Nat} {v : Value} {l : List Int} (h : OwnZ w base v l) (hb : base' ≤ base) : OwnZ w base' v l := by
  obtain ⟨h1, h2⟩ := h
  refine ⟨h1, ?_⟩
  rcases h2 with h2 | ⟨g, cap, cur, hv, hg, r⟩
  · exact .inl h2
  · exact .inr ⟨g, cap, cur, hv, by omega, r⟩
set_option maxRecDepth 100000 in
theorem StS.openOf {w0 w : World} {S D : Nat → Prop} {sb n : Nat} {s : St.S} (h : StS w0 S D sb s n w) (hn : n ≤ 1000000) :
    Calls Tryz.prog 15 #[.pointer (some ⟨sb, 0, none⟩)] w fun e w' => ∃ v l, e = .returned v ∧ St.ListsI s.ups l ∧ OwnZ w' w.heap.size v l ∧ Below w.heap.size w w' := by
  obtain ⟨ob, ub, sv, ov, pb, pv, hL⟩ := h.st
  obtain ⟨D0, hown, hat0⟩ := hL.ups.ex
  have hsz := hown.size_le
  have c : w.cell? ⟨sb, 1, none⟩ = some (.map (some ub)) := box_cell hL.box 1
  have hS := callsIn_wide.1 (lay_slices_Sorted_keysI ub n D0 heldE w hown (by simp only [maxLen]; omega) (by omega))
  have hK := fun (mb : Option Nat) (W : World) => callsIn_wide.1 (lay_maps_KeysI mb W)
  have hov : ∀ x, upV pb s x ≠ none ↔ s.ups x ≠ none := fun x => by simp [upV]
  have HL := hide (fun (ss : List Int) (hp : ss.Perm (intKeys D0)) => (show St.ListsI s.ups (ss.mergeSort fun x y => decide (x ≤ y)) from ⟨(keysI_lists hown hat0 hp).1, fun x => ((keysI_lists hown hat0 hp).2 x).trans (hov x)⟩))
  have HS := hide hS
  have HK := hide hK
  clear h hL hS hK hown hat0 hsz hov
  go_enter Tryz.func15, Tryz.ntmps15
  go_wp2_with (first
    | (go_at_call 25; refine (HK.out _ _).mono ?_; rintro e w1 ⟨rfl, rfl⟩)
    | (go_at_call 24; refine HS.out.mono ?_; rintro e w2 ⟨v, ss, rfl, hp, hrow, -, hb2⟩; have HRO := hide hrow; have HB := hide hb2; have HP := hide hp; clear hrow hb2 hp)
    | fail)
  go_ret
  have hlen : (ss.mergeSort fun x y => decide (x ≤ y)).length = ss.length := by simp
  refine ⟨_, _, rfl, HL.out ss HP.out, ?_, (balloc (Below.refl _ _) _).trans (HB.out.mono (by simp))⟩
  refine OwnZ.mono (base := (w.alloc (.cells #[.map (some ub)] 49)).heap.size) ?_ (by simp)
  unfold OwnZ
  rw [hlen]
  exact HRO.out
end Go.Proofs.YtegaahcelogmlaaGreatDoor
