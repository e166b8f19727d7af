/-
  The laying of maps.Keys, slices.Sorted and slices.Sort at names.
  Rows of texts: of the call's own, made and appended to; and read.
  The chapter's examples: what every statement of the disk begins with.
  What was synced is there behind any crash: the states, plainly; what a walk wants of its arguments.
  DiskDown: a disk without power tells nothing and changes nothing; the states, plainly.
  The names of a disk, rising: List.
  A disk under a walk, by the set of its own blocks: its names; rows of lists of names.
-/
import Derived.Shelf.SlIter.Nil
import Derived.Shelf.SortM.Plain
import Derived.Shelf.SortM.SortNone
import Derived.Test.YtcmgppacipdnaaaGreatDoorRows
import Derived.Test.YtcmgppacipdnaaaGreatDoorQTable
import Derived.Sort.EncStr
import Derived.WalkKit
import Derived.ProofKit
import Derived.Below
import Derived.BigQuiet
import Derived.Deep.QuietTactic
import Derived.Outline
import Derived.LoopTactic
import Derived.Deep.LoopGhost
import Derived.Test.YtcmgppacipdnaaaGreatDoorQRMake
import Derived.Lib.SlBytesConst
import Derived.Test.YtcmgppacipdnaaaGreatDoorQDkC
import Derived.Test.YtcmgppacipdnaaaGreatDoorQSgA
import Derived.Test.YtcmgppacipdnaaaGreatDoorQDkSe
namespace Go.Proofs.YtcmgppacipdnaaaGreatDoor
open Go.Shelf
def lay_keysF_ren : Go.Shelf.Ren := ⟨fun | 7 => 153 | 10 => 181 | n => n, fun | 23 => 97 | 26 => 9 | 3 => 106 | 28 => 207 | 0 => 0 | 27 => 206 | 33 => 230 | 4 => 4 | n => n, fun | n => n⟩
theorem lay_keysF : Go.Proofs.SlLaysZ.n7 Tryz.prog lay_keysF_ren := {
  mixed := by kernel_rfl
  f7 := ⟨Tryz.f153.name, by decide, Tryz.func153.trans (congrArg some (by kernel_rfl))⟩
  f10 := ⟨Tryz.f181.name, by decide, Tryz.func181.trans (congrArg some (by kernel_rfl))⟩
  t0 := Tryz.underlying0
  a0 := Tryz.isAgg0
  z0 := Tryz.sizeOf0
  v0 := Tryz.zeroValue0
  t4 := Tryz.underlying4
  a4 := Tryz.isAgg4
  z4 := Tryz.sizeOf4
  v4 := Tryz.zeroValue4
  t23 := Tryz.underlying97
  a23 := Tryz.isAgg97
  z23 := Tryz.sizeOf97
  v23 := Tryz.zeroValue97
  t26 := Tryz.underlying9
  a26 := Tryz.isAgg9
  z26 := Tryz.sizeOf9
  v26 := Tryz.zeroValue9
  t27 := Tryz.underlying206
  a27 := Tryz.isAgg206
  z27 := Tryz.sizeOf206
  v27 := Tryz.zeroValue206
  t28 := Tryz.underlying207
  a28 := Tryz.isAgg207
  z28 := Tryz.sizeOf207
  v28 := Tryz.zeroValue207
  t33 := Tryz.underlying230
  a33 := Tryz.isAgg230
  z33 := Tryz.sizeOf230
  v33 := Tryz.zeroValue230 }
def lay_sortedF_ren : Go.Shelf.Ren := ⟨fun | 6 => 152 | 8 => 179 | 9 => 180 | 11 => 203 | 13 => 178 | 12 => 204 | 23 => 201 | 24 => 202 | 14 => 223 | 15 => 224 | 16 => 225 | 17 => 226 | 18 => 227 | 19 => 228 | 20 => 229 | 21 => 230 | 22 => 231 | 25 => 249 | 26 => 219 | 27 => 220 | 28 => 250 | 29 => 251 | 30 => 252 | 31 => 262 | n => n, fun | 26 => 9 | 28 => 207 | 24 => 169 | 0 => 0 | 3 => 3 | 37 => 143 | 48 => 127 | 50 => 124 | 4 => 4 | 40 => 242 | 39 => 241 | 45 => 246 | 5 => 5 | 9 => 9 | 51 => 263 | 55 => 267 | 57 => 291 | 58 => 292 | 33 => 230 | n => n, fun | n => n⟩
theorem lay_sortedF : Go.Proofs.SlLaysZ.n6 Tryz.prog lay_sortedF_ren := {
  mixed := by kernel_rfl
  f6 := ⟨Tryz.f152.name, by decide, Tryz.func152.trans (congrArg some (by kernel_rfl))⟩
  f8 := ⟨Tryz.f179.name, by decide, Tryz.func179.trans (congrArg some (by kernel_rfl))⟩
  f11 := ⟨Tryz.f203.name, by decide, Tryz.func203.trans (congrArg some (by kernel_rfl))⟩
  t0 := Tryz.underlying0
  a0 := Tryz.isAgg0
  z0 := Tryz.sizeOf0
  v0 := Tryz.zeroValue0
  t24 := Tryz.underlying169
  a24 := Tryz.isAgg169
  z24 := Tryz.sizeOf169
  v24 := Tryz.zeroValue169
  t26 := Tryz.underlying9
  a26 := Tryz.isAgg9
  z26 := Tryz.sizeOf9
  v26 := Tryz.zeroValue9
  t28 := Tryz.underlying207
  a28 := Tryz.isAgg207
  z28 := Tryz.sizeOf207
  v28 := Tryz.zeroValue207
  i26 := by kernel_rfl }
def lay_sortSF_ren : Go.Shelf.Ren := ⟨fun | 6 => 180 | 8 => 178 | 9 => 204 | 19 => 201 | 20 => 202 | 21 => 223 | 22 => 224 | 23 => 225 | 24 => 226 | 25 => 227 | 26 => 228 | 27 => 229 | 28 => 230 | 29 => 231 | 36 => 249 | 31 => 219 | 32 => 220 | 37 => 250 | 38 => 251 | 39 => 252 | 41 => 262 | n => n, fun | 27 => 169 | 29 => 9 | 3 => 3 | 32 => 143 | 26 => 169 | 0 => 0 | 44 => 127 | 46 => 124 | 4 => 4 | 36 => 242 | 35 => 241 | 41 => 246 | 5 => 5 | 9 => 9 | 53 => 263 | 57 => 267 | 63 => 291 | 64 => 292 | n => n, fun | n => n⟩
theorem lay_sortSF : Go.Proofs.SlLaysM.n6 Tryz.prog lay_sortSF_ren := {
  mixed := by kernel_rfl
  f6 := ⟨Tryz.f180.name, by decide, Tryz.func180.trans (congrArg some (by kernel_rfl))⟩
  f8 := Tryz.func178.trans (congrArg some (by kernel_rfl))
  f9 := ⟨Tryz.f204.name, by decide, Tryz.func204.trans (congrArg some (by kernel_rfl))⟩
  f19 := Tryz.func201.trans (congrArg some (by kernel_rfl))
  f20 := Tryz.func202.trans (congrArg some (by kernel_rfl))
  f21 := ⟨Tryz.f223.name, by decide, Tryz.func223.trans (congrArg some (by kernel_rfl))⟩
  f22 := ⟨Tryz.f224.name, by decide, Tryz.func224.trans (congrArg some (by kernel_rfl))⟩
  f23 := ⟨Tryz.f225.name, by decide, Tryz.func225.trans (congrArg some (by kernel_rfl))⟩
  f24 := ⟨Tryz.f226.name, by decide, Tryz.func226.trans (congrArg some (by kernel_rfl))⟩
  f25 := ⟨Tryz.f227.name, by decide, Tryz.func227.trans (congrArg some (by kernel_rfl))⟩
  f26 := ⟨Tryz.f228.name, by decide, Tryz.func228.trans (congrArg some (by kernel_rfl))⟩
  f27 := ⟨Tryz.f229.name, by decide, Tryz.func229.trans (congrArg some (by kernel_rfl))⟩
  f28 := ⟨Tryz.f230.name, by decide, Tryz.func230.trans (congrArg some (by kernel_rfl))⟩
  f29 := ⟨Tryz.f231.name, by decide, Tryz.func231.trans (congrArg some (by kernel_rfl))⟩
  f31 := Tryz.func219.trans (congrArg some (by kernel_rfl))
  f32 := Tryz.func220.trans (congrArg some (by kernel_rfl))
  f36 := ⟨Tryz.f249.name, by decide, Tryz.func249.trans (congrArg some (by kernel_rfl))⟩
  f37 := ⟨Tryz.f250.name, by decide, Tryz.func250.trans (congrArg some (by kernel_rfl))⟩
  f38 := ⟨Tryz.f251.name, by decide, Tryz.func251.trans (congrArg some (by kernel_rfl))⟩
  f39 := ⟨Tryz.f252.name, by decide, Tryz.func252.trans (congrArg some (by kernel_rfl))⟩
  f41 := ⟨Tryz.f262.name, by decide, Tryz.func262.trans (congrArg some (by kernel_rfl))⟩
  t0 := Tryz.underlying0
  a0 := Tryz.isAgg0
  z0 := Tryz.sizeOf0
  v0 := Tryz.zeroValue0
  t3 := Tryz.underlying3
  a3 := Tryz.isAgg3
  z3 := Tryz.sizeOf3
  v3 := Tryz.zeroValue3
  t4 := Tryz.underlying4
  a4 := Tryz.isAgg4
  z4 := Tryz.sizeOf4
  v4 := Tryz.zeroValue4
  t5 := Tryz.underlying5
  a5 := Tryz.isAgg5
  z5 := Tryz.sizeOf5
  v5 := Tryz.zeroValue5
  t9 := Tryz.underlying9
  a9 := Tryz.isAgg9
  z9 := Tryz.sizeOf9
  v9 := Tryz.zeroValue9
  t26 := Tryz.underlying169
  a26 := Tryz.isAgg169
  z26 := Tryz.sizeOf169
  v26 := Tryz.zeroValue169
  t27 := Tryz.underlying169
  a27 := Tryz.isAgg169
  z27 := Tryz.sizeOf169
  v27 := Tryz.zeroValue169
  t29 := Tryz.underlying9
  a29 := Tryz.isAgg9
  z29 := Tryz.sizeOf9
  v29 := Tryz.zeroValue9
  t32 := Tryz.underlying143
  a32 := Tryz.isAgg143
  z32 := Tryz.sizeOf143
  v32 := Tryz.zeroValue143
  t35 := Tryz.underlying241
  a35 := Tryz.isAgg241
  z35 := Tryz.sizeOf241
  v35 := Tryz.zeroValue241
  t36 := Tryz.underlying242
  a36 := Tryz.isAgg242
  z36 := Tryz.sizeOf242
  v36 := Tryz.zeroValue242
  t41 := Tryz.underlying246
  a41 := Tryz.isAgg246
  z41 := Tryz.sizeOf246
  v41 := Tryz.zeroValue246
  t44 := Tryz.underlying127
  a44 := Tryz.isAgg127
  z44 := Tryz.sizeOf127
  v44 := Tryz.zeroValue127
  t46 := Tryz.underlying124
  a46 := Tryz.isAgg124
  z46 := Tryz.sizeOf124
  v46 := Tryz.zeroValue124
  t53 := Tryz.underlying263
  a53 := Tryz.isAgg263
  z53 := Tryz.sizeOf263
  v53 := Tryz.zeroValue263
  t57 := Tryz.underlying267
  a57 := Tryz.isAgg267
  z57 := Tryz.sizeOf267
  v57 := Tryz.zeroValue267
  t63 := Tryz.underlying291
  a63 := Tryz.isAgg291
  z63 := Tryz.sizeOf291
  v63 := Tryz.zeroValue291
  t64 := Tryz.underlying292
  a64 := Tryz.isAgg292
  z64 := Tryz.sizeOf292
  v64 := Tryz.zeroValue292 }

open Go.RowKit Go.Maps Go.Sort
theorem lay_sorts (m : Nat) : AnyZ.SortsIn Tryz.prog lay_sortedF_ren Fence.wide m :=
  ⟨fun blk off cap ss W hH hblk hsz => callsIn_wide.2 (AnyM.slices_Sort_string lay_sortSF blk off cap ss W hH hblk hsz),
   fun p cap W => callsIn_wide.2 (AnyM.slices_Sort_string_none lay_sortSF p cap W)⟩
theorem lay_maps_Keys (mb : Option Nat) (W : World) : CallsIn Fence.wide 5 Tryz.prog 153 #[.map mb] W fun e w' => e = .returned (.func (.func 181) #[] #[.pointer (some ⟨W.heap.size, 0, none⟩)]) ∧ w' = W.alloc (.cells #[.map mb] 97) :=
  AnyZ.keys_in lay_keysF Fence.wide 5 trivial rfl mb W
set_option maxHeartbeats 1000000 in
theorem lay_slices_Sorted_keys {H : Type} (b nn : Nat) (D0 : DataW H) (R : Value → Option (DataW H × List MemPlace)) (w : World) (hown : w.ownsMap Tryz.prog 9 R b nn D0) (hmax : Maps.size D0 ≤ maxLen) (hbytes : Maps.size D0 * 16 ≤ 140737488355328) :
    CallsIn Fence.wide 5 Tryz.prog 152 #[.func (.func 181) #[] #[.pointer (some ⟨w.heap.size, 0, none⟩)]] (w.alloc (.cells #[.map (some b)] 97)) fun e w' => ∃ (v : Value) (ss : List (List UInt8)), e = .returned v ∧ ss.Perm (strKeys D0) ∧
      w'.ownsRow (w.alloc (.cells #[.map (some b)] 97)).heap.size 9 1 v ss.length ((ss.mergeSort (fun x y => decide (x ≤ y))).map encStr) ∧ (v = .slice none 0 0 ↔ ss = []) ∧ Below (w.alloc (.cells #[.map (some b)] 97)).heap.size (w.alloc (.cells #[.map (some b)] 97)) w' := by
  have hbl := hown.lt
  have hseq : SeqGives Fence.wide 2 Tryz.prog 181 #[.pointer (some ⟨w.heap.size, 0, none⟩)] encStr (fun ss => ss.Perm (strKeys D0)) (Maps.size D0) (w.alloc (.cells #[.map (some b)] 97)) :=
    AnyZ.keys_gives (ρ := lay_keysF_ren) { lay_keysF with } Fence.wide _ trivial rfl (by omega) w.heap.size b nn D0 _ (by simp) (by simp) (by
      obtain ⟨es, clock, hb, Ft, hs, hD⟩ := hown
      exact ⟨es, clock, (Below.heap_alloc _ _ b hbl).trans hb, Ft, hs, hD⟩)
  exact AnyZ.sorted_in lay_sortedF Fence.wide 5 trivial trivial trivial trivial rfl (by omega) (lay_sorts _) (enters_of Tryz.func180 (by kernel_rfl) rfl) 181 #[.pointer (some ⟨w.heap.size, 0, none⟩)] trivial (enters_of Tryz.func181 (by kernel_rfl) rfl) _ _ hmax hbytes _ hseq
end Go.Proofs.YtcmgppacipdnaaaGreatDoor

namespace Go.Proofs.YtcmgppacipdnaaaGreatDoor
open Go.RowKit Go.Sort

def txs (l : List (List UInt8)) : List Value := l.map encStr
theorem txs_len (l : List (List UInt8)) : (txs l).length = l.length := by simp [txs]
/-- A slice that reads as texts: nil, empty or not. -/
def ReadsT (w : World) (A : Option Addr) (l : List (List UInt8)) : Prop :=
  l = [] ∨ ∃ b off, A = some ⟨b, off, none⟩ ∧ b < w.heap.size ∧ ∀ k, k < l.length → w.cell? ⟨b, off + k, none⟩ = some (encStr (l.getD k []))
theorem ReadsT.drewN {w : World} {A : Option Addr} {l : List (List UInt8)} (h : ReadsT w A l) (n : Nat) : ReadsT (w.drewN n) A l := h
theorem ReadsT.below {w w' : World} {C : Nat} {A : Option Addr} {l : List (List UInt8)} (h : ReadsT w A l) (hb : Below C w w') (hC : w.heap.size ≤ C) : ReadsT w' A l := by
  rcases h with h | ⟨b, off, e, hlt, hc⟩
  · exact .inl h
  · exact .inr ⟨b, off, e, by have := hb.size; omega, fun k hk => (hb.cell (p := ⟨b, off + k, none⟩) (by show b < C; omega)).trans (hc k hk)⟩
/-- Of a slice that reads as texts, a part. -/
theorem ReadsT.get {w : World} {A : Option Addr} {l : List (List UInt8)} (h : ReadsT w A l) (k : Nat) (hk : k < l.length) : ∃ b off, A = some ⟨b, off, none⟩ ∧ w.cell? ⟨b, off + k, none⟩ = some (encStr (l.getD k [])) := by
  rcases h with rfl | ⟨b, off, e, _, hc⟩
  · simp at hk
  · exact ⟨b, off, e, hc k hk⟩
theorem ReadsT.take {w : World} {A : Option Addr} {l : List (List UInt8)} (h : ReadsT w A l) (k : Nat) : ReadsT w A (l.take k) := by
  rcases h with rfl | ⟨b, off, e, hlt, hc⟩
  · exact .inl (by simp)
  · refine .inr ⟨b, off, e, hlt, fun j hj => ?_⟩
    rw [List.length_take] at hj
    rw [hc j (by omega)]
    simp [List.getD, show j < k by omega]
theorem ReadsT.drop {w : World} {b off k : Nat} {l : List (List UInt8)} (h : ReadsT w (some ⟨b, off, none⟩) l) : ReadsT w (some ⟨b, off + k, none⟩) (l.drop k) := by
  rcases h with rfl | ⟨b', off', e, hlt, hc⟩
  · exact .inl (by simp)
  · injection e with e; injection e with e1 e2 _; subst e1 e2
    refine .inr ⟨b, off + k, rfl, hlt, fun j hj => ?_⟩
    rw [List.length_drop] at hj
    rw [show off + k + j = off + (k + j) by omega, hc (k + j) (by omega)]
    simp [List.getD, List.getElem?_drop]
theorem ReadsT.news {w : World} {ad : Addr} {l : List (List UInt8)} (h : ReadsT w (some ad) l) : ∀ j u, (txs l)[j]? = some u → w.cell? (ad.add j) = some u := by
  intro j u hu
  rcases h with rfl | ⟨b, off, e, hb, hc⟩
  · simp [txs] at hu
  · obtain rfl := Option.some.inj e
    have hj : j < l.length := by
      have := (List.getElem?_eq_some_iff.1 hu).1
      rwa [txs_len] at this
    rw [show (⟨b, off, none⟩ : Addr).add j = ⟨b, off + j, none⟩ from by rw [Addr.add_lit]]
    rw [hc j hj]
    simpa [txs, hj, List.getD] using hu
/-- A new block whose cells are texts reads as them. -/
theorem ReadsT.made (w : World) (l : List (List UInt8)) (cs : Array Value) (e : TypeId) (fr : Nat × Nat) (g : Nat) (hg : g = w.heap.size) (hc : (txs l).toArray = cs) : ReadsT (w.alloc (.cells cs e fr)) (some ⟨g, 0, none⟩) l := by
  subst hg hc
  refine .inr ⟨_, _, rfl, by simp, fun k hk => ?_⟩
  rw [World.cell?_alloc_mark]
  simp [txs, hk, List.getD]

/-- A slice value that the call owns: its texts. -/
def OwnT (w : World) (base : Nat) (v : Value) (l : List (List UInt8)) : Prop := w.ownsRow base 9 1 v l.length (txs l)
theorem OwnT.nil (w : World) (base : Nat) : OwnT w base (.slice none 0 0) [] := World.ownsRow_nil w base _ 1
theorem OwnT.alloc {w : World} {base : Nat} {v : Value} {l : List (List UInt8)} (h : OwnT w base v l) (o : Obj) : OwnT (w.alloc o) base v l := World.ownsRow.alloc h o
theorem OwnT.drewN {w : World} {base : Nat} {v : Value} {l : List (List UInt8)} (h : OwnT w base v l) (n : Nat) : OwnT (w.drewN n) base v l := h
theorem OwnT.lt {w : World} {base : Nat} {v : Value} {l : List (List UInt8)} (h : OwnT w base v l) : ∀ k, v.ownBlock = some k → base ≤ k ∧ k < w.heap.size := World.ownsRow.lt h
theorem OwnT.below {w w' : World} {base C : Nat} {v : Value} {l : List (List UInt8)} (h : OwnT w base v l) (hb : Below C w w') (hC : w.heap.size ≤ C) : OwnT w' base v l := by
  obtain ⟨h1, h2⟩ := h
  refine ⟨h1, ?_⟩
  rcases h2 with h2 | ⟨g, cap, cur, hv, hg, hh, r⟩
  · exact .inl h2
  · have hlt : g < w.heap.size := by
      rcases Nat.lt_or_ge g w.heap.size with h | h
      · exact h
      · rw [Array.getElem?_eq_none h] at hh; cases hh
    exact .inr ⟨g, cap, cur, hv, hg, (hb.block g (by omega)).trans hh, r⟩
theorem OwnT.mono {w : World} {base base' : Nat} {v : Value} {l : List (List UInt8)} (h : OwnT w base v l) (hb : base' ≤ base) : OwnT w base' v l := by
  obtain ⟨h1, h2⟩ := h
  refine ⟨h1, ?_⟩
  rcases h2 with h2 | ⟨g, cap, cur, hv, hg, r⟩
  · exact .inl h2
  · exact .inr ⟨g, cap, cur, hv, by omega, r⟩
/-- What is owned is a slice that reads as its texts. -/
theorem OwnT.reads {w : World} {base : Nat} {v : Value} {l : List (List UInt8)} (h : OwnT w base v l) : ∃ A c, v = .slice A l.length c ∧ ReadsT w A l ∧ (A = none → l = [] ∧ c = 0) ∧ l.length ≤ c ∧ c ≤ 9223372036854775807 := by
  obtain ⟨_, h2⟩ := h
  rcases h2 with ⟨rfl, h0⟩ | ⟨g, cap, cur, rfl, hg, hh, hn, hm, hs, ht⟩
  · obtain rfl := List.eq_nil_of_length_eq_zero h0
    exact ⟨none, 0, rfl, .inl rfl, fun _ => ⟨rfl, rfl⟩, by simp, by omega⟩
  · refine ⟨_, _, rfl, .inr ⟨g, 0, rfl, ?_, fun k hk => ?_⟩, (fun e => by cases e), hn, by simp only [maxLen] at hm; omega⟩
    · rcases Nat.lt_or_ge g w.heap.size with h | h
      · exact h
      · rw [Array.getElem?_eq_none h] at hh; cases hh
    · have e : cur.toList[k]? = some (encStr l[k]) := by
        have e2 : (cur.toList.take (l.length * 1))[k]? = some (encStr l[k]) := by rw [ht]; simp [txs, hk]
        rw [List.getElem?_take] at e2
        rwa [if_pos (by omega)] at e2
      have e3 : cur[k]? = some (encStr l[k]) := by simpa using e
      simp only [World.cell?, hh, Nat.zero_add]
      rw [e3]
      simp [List.getD, hk]
section
variable {w : World} {ops : Array Oper} {rest : List Oper} {o : Oper} {a : Act} {Q : Exit → Act → World → Prop}
end

/-- Where it owns them, a new row grows. -/
theorem OwnT.kept {w w' : World} {base : Nat} {v : Value} {l : List (List UInt8)} {row : Option Nat} (h : OwnT w base v l) (hg : w.grownBy w' row) (hne : v.ownBlock = none ∨ v.ownBlock ≠ row) : OwnT w' base v l := World.ownsRow.kept h hg hne

end Go.Proofs.YtcmgppacipdnaaaGreatDoor

namespace Go.Proofs.YtcmgppacipdnaaaGreatDoor
open Go.RowKit Go.Maps

end Go.Proofs.YtcmgppacipdnaaaGreatDoor

namespace Go.Proofs.YtcmgppacipdnaaaGreatDoor.Dk

end Go.Proofs.YtcmgppacipdnaaaGreatDoor.Dk

namespace Go.Proofs.YtcmgppacipdnaaaGreatDoor
open Go.RowKit Go.ChangeShapes Go.WideShapes Go.ChangeAt

end Go.Proofs.YtcmgppacipdnaaaGreatDoor

namespace Go.Proofs.YtcmgppacipdnaaaGreatDoor.Dk

/-- A disk whose power is gone. -/
structure Off (s : St) : Prop where
  down : s.down = true
  armed : s.armed = 0
theorem Off.begin {s : St} (h : Off s) : s.begin = s := by
  unfold St.begin; rw [if_neg (by have := h.armed; omega)]
theorem Off.find {s : St} (h : Off s) (k : Nm) : s.find k = (some 9, none) := by
  unfold St.find; rw [h.down, if_pos rfl]
theorem Off.create {s : St} (h : Off s) (k : Nm) (i : Nat) : s.create k i = (some 9, s) := by
  unfold St.create; rw [h.begin, h.down, if_pos rfl]
theorem Off.append {s : St} (h : Off s) (k b : Nm) : s.append k b = (some 9, s) := by
  unfold St.append; rw [h.begin, h.find]
theorem Off.cut {s : St} (h : Off s) (k : Nm) (n : Int) : s.cut k n = (some 9, s) := by
  unfold St.cut; rw [h.begin, h.find]
theorem Off.sync {s : St} (h : Off s) (k : Nm) : s.sync k = (some 9, s) := by
  unfold St.sync; rw [h.begin, h.find]
theorem Off.rename {s : St} (h : Off s) (k tn : Nm) : s.rename k tn = (some 9, s) := by
  unfold St.rename; rw [h.begin, h.find]
theorem Off.syncDir {s : St} (h : Off s) : s.syncDir = (some 9, s) := by
  unfold St.syncDir; rw [h.begin, h.down, if_pos rfl]
theorem Off.read {s : St} (h : Off s) (k : Nm) (a m : Int) : (s.readOf k a m).1 = some 9 := by
  unfold St.readOf; rw [h.find]

end Go.Proofs.YtcmgppacipdnaaaGreatDoor.Dk

namespace Go.Proofs.YtcmgppacipdnaaaGreatDoor
open Go.RowKit Go.Maps

theorem Sess.down {w0 w : World} {n Bd : Nat} {s : Dk.St} (h : Sess w0 n Bd s w) : Calls Tryz.prog 31 #[.pointer (some ⟨Bd, 0, none⟩)] w fun e w' => e = .returned (.bool s.down) ∧ w' = w := down_any Bd s _ w h.disk
end Go.Proofs.YtcmgppacipdnaaaGreatDoor

namespace Go.Proofs.YtcmgppacipdnaaaGreatDoor
open Go.RowKit Go.Maps Go.Sort

/-- These are a directory's names, rising. -/
def Dk.Lists (f : Dk.Dir) (l : List Dk.Nm) : Prop := l.Pairwise (· < ·) ∧ ∀ x, x ∈ l ↔ f x ≠ none
theorem Dk.Lists.one {f : Dk.Dir} {l m : List Dk.Nm} (h : Dk.Lists f l) (k : Dk.Lists f m) : l = m :=
  Nm.strict_ext l m h.1 k.1 fun x => (h.2 x).trans (k.2 x).symm

theorem keys_lists {w : World} {b nn : Nat} {D0 : DataW Unit} {f : Dk.Dir} (hown : w.ownsMap Tryz.prog 9 ptrE b nn D0) (hat0 : ∀ k zd, D0.atKey (.string k) zd = fileD (f k) zd) {ss : List (List UInt8)} (h : ss.Perm (strKeys D0)) :
    Dk.Lists f (ss.mergeSort fun x y => decide (x ≤ y)) := by
  obtain ⟨es, hD, hpw, _⟩ := hown.entries str_law
  obtain ⟨es', hD', hko⟩ := hown.keysOf
  obtain rfl : es = es' := by rw [hD] at hD'; simpa using hD'
  subst hD
  have hk : ∀ p ∈ es, ∃ x, p.1 = .string x := fun p hp => by
    obtain ⟨v, hv⟩ := hko p hp
    obtain ⟨x, _, hx, _⟩ := Maps.keyOf_str Tryz.underlying9 hv
    exact ⟨x, hx⟩
  have hnd : (strKeys (.map es)).Nodup := by
    show (es.map fun p => strOf p.1).Nodup
    refine List.pairwise_map.2 (hpw.imp_of_mem fun {p q} hp hq hne e => hne ?_)
    obtain ⟨x, hx⟩ := hk p hp
    obtain ⟨y, hy⟩ := hk q hq
    rw [hx, hy] at e ⊢
    exact congrArg _ e
  have hmem : ∀ x, x ∈ strKeys (.map es) ↔ f x ≠ none := fun x => by
    rw [← has_iff hat0 x, has_eq, List.any_eq_true]
    show x ∈ es.map (fun p => strOf p.1) ↔ _
    rw [List.mem_map]
    constructor
    · rintro ⟨p, hp, rfl⟩
      obtain ⟨y, hy⟩ := hk p hp
      exact ⟨p, hp, by rw [hy]; simp [Lit.sameKey, strOf]⟩
    · rintro ⟨p, hp, hs⟩
      obtain ⟨y, hy⟩ := hk p hp
      rw [hy] at hs
      exact ⟨p, hp, by rw [hy]; simpa [Lit.sameKey, strOf] using hs⟩
  have hp2 : (ss.mergeSort fun x y => decide (x ≤ y)).Perm (strKeys (.map es)) := (List.mergeSort_perm ss _).trans h
  refine ⟨?_, fun x => (hp2.mem_iff).trans (hmem x)⟩
  have hle : (ss.mergeSort fun x y => decide (x ≤ y)).Pairwise (fun a b => decide (a ≤ b) = true) :=
    List.pairwise_mergeSort (fun a b c h1 h2 => by simp only [decide_eq_true_eq] at *; exact List.le_trans h1 h2) (fun a b => by simp only [Bool.or_eq_true, decide_eq_true_eq]; exact List.le_total a b) ss
  have hne : (ss.mergeSort fun x y => decide (x ≤ y)).Nodup := hp2.nodup_iff.2 hnd
  refine (hle.and hne).imp fun {a b} hab => ?_
  have h1 : a ≤ b := of_decide_eq_true hab.1
  rcases Nm.tx_tri a b with e | e | e
  · exact e
  · exact absurd e hab.2
  · exact absurd e (List.not_lt.2 h1)

set_option maxRecDepth 100000 in
theorem list_any (Bd : Nat) (s : Dk.St) (S : Nat → Prop) (w : World) (h : IsDisk w Bd s S) (hc : s.calls ≤ 1000000) :
    Calls Tryz.prog 119 #[.pointer (some ⟨Bd, 0, none⟩)] w fun e w' => ∃ v l, e = .returned v ∧ Dk.Lists s.names l ∧ OwnT w' w.heap.size v l ∧ Below w.heap.size w w' := by
  obtain ⟨nb, db, sv, ids, row, h⟩ := h
  obtain ⟨D0, hown, hat0⟩ := h.names.ex
  have hsz := hown.size_le
  have c : w.cell? ⟨Bd, 1, none⟩ = some (.map (some nb)) := box_cell h.box 1
  have hS := callsIn_wide.1 (lay_slices_Sorted_keys nb s.calls.toNat D0 ptrE w hown (by simp only [maxLen]; omega) (by omega))
  have hK := fun (mb : Option Nat) (W : World) => callsIn_wide.1 (lay_maps_Keys mb W)
  have HL := hide (fun (ss : List (List UInt8)) (hp : ss.Perm (strKeys D0)) => keys_lists hown hat0 hp)
  have HS := hide hS
  have HK := hide hK
  clear h hS hK hown hat0 hsz
  go_enter Tryz.func119, Tryz.ntmps119
  go_wp2_with (first
    | (go_at_call 153; refine (HK.out _ _).mono ?_; rintro e w1 ⟨rfl, rfl⟩)
    | (go_at_call 152; refine HS.out.mono ?_; rintro e w2 ⟨v, ss, rfl, hp, hrow, -, hb2⟩; have HRO := hide hrow; have HB := hide hb2; have HP := hide hp; clear hrow hb2 hp)
    | fail)
  go_ret
  have hlen : (ss.mergeSort fun x y => decide (x ≤ y)).length = ss.length := by simp
  refine ⟨_, _, rfl, HL.out ss HP.out, ?_, (balloc (Below.refl _ _) _).trans (HB.out.mono (by simp))⟩
  refine OwnT.mono (base := (w.alloc (.cells #[.map (some nb)] 97)).heap.size) ?_ (by simp)
  unfold OwnT
  rw [hlen]
  exact HRO.out
theorem Sess.list {w0 w : World} {n Bd : Nat} {s : Dk.St} (h : Sess w0 n Bd s w) (hn : n ≤ 1000) :
    Calls Tryz.prog 119 #[.pointer (some ⟨Bd, 0, none⟩)] w fun e w' => ∃ v l, e = .returned v ∧ Dk.Lists s.names l ∧ OwnT w' w.heap.size v l ∧ Below w.heap.size w w' :=
  list_any Bd s _ w h.disk (by have := h.small.calls; omega)
end Go.Proofs.YtcmgppacipdnaaaGreatDoor

namespace Go.Proofs.YtcmgppacipdnaaaGreatDoor
open Go.RowKit Go.Maps Go.Sort

theorem SessS.list {S : Nat → Prop} {w0 w : World} {n Bd : Nat} {s : Dk.St} (h : SessS S w0 n Bd s w) (hn : n ≤ 1000) :
    Calls Tryz.prog 119 #[.pointer (some ⟨Bd, 0, none⟩)] w fun e w' => ∃ v l, e = .returned v ∧ Dk.Lists s.names l ∧ OwnT w' w.heap.size v l ∧ Below w.heap.size w w' :=
  list_any Bd s S w h.disk (by have := h.small.calls; omega)
/-- A list of texts that lies outside S. -/
structure OutT (S : Nat → Prop) (w : World) (v : Value) (l : List Dk.Nm) : Prop where
  own : OwnT w 0 v l
  out : ∀ g, v.ownBlock = some g → ¬ S g
theorem own_same {w w' : World} {v : Value} {l : List Dk.Nm} (h : OwnT w 0 v l) (hb : ∀ g, v.ownBlock = some g → w'.heap[g]? = w.heap[g]?) : OwnT w' 0 v l := ownsRow_same h hb
theorem OutT.chg {S : Nat → Prop} {w w' : World} {v : Value} {l : List Dk.Nm} (h : OutT S w v l) (hc : Chg S w w') : OutT (Up S w w') w' v l :=
  ⟨own_same h.own fun g hg => hc.block g (h.own.lt g hg).2 (h.out g hg), fun g hg hu => by rcases hu with hu | hu; exact h.out g hg hu; have := (h.own.lt g hg).2; omega⟩
theorem OutT.below {S : Nat → Prop} {w w' : World} {v : Value} {l : List Dk.Nm} (h : OutT S w v l) (hb : Below w.heap.size w w') : OutT S w' v l := ⟨h.own.below hb (Nat.le_refl _), h.out⟩
theorem OutT.new {S : Nat → Prop} {w w' : World} {v : Value} {l : List Dk.Nm} (h : OwnT w' w.heap.size v l) (hS : ∀ k, S k → k < w.heap.size) : OutT S w' v l :=
  ⟨h.mono (Nat.zero_le _), fun g hg hs => by have := (h.lt g hg).1; have := hS g hs; omega⟩

/-- A row of lists of names, outside S. -/
def StRow (B : Nat) (S : Nat → Prop) (w : World) (v : Value) (sts : List (List Dk.Nm)) : Prop :=
  ∃ svs : List Value, w.ownsRow 0 169 1 v svs.length svs ∧ (∀ g, v.ownBlock = some g → ¬ S g ∧ B ≤ g) ∧ svs.length = sts.length ∧ ∀ j, j < svs.length → OutT S w (svs.getD j undef) (sts.getD j [])
theorem StRow.nil (B : Nat) (S : Nat → Prop) (w : World) : StRow B S w (.slice none 0 0) [] := ⟨[], World.ownsRow_nil w 0 _ 1, fun g hg => (by cases hg), rfl, fun j hj => absurd hj (Nat.not_lt_zero _)⟩
theorem StRow.chg {B : Nat} {S : Nat → Prop} {w w' : World} {v : Value} {sts : List (List Dk.Nm)} (h : StRow B S w v sts) (hc : Chg S w w') : StRow B (Up S w w') w' v sts := by
  obtain ⟨svs, h1, h2, h3, h4⟩ := h
  exact ⟨svs, ownsRow_same h1 fun g hg => hc.block g (h1.lt g hg).2 (h2 g hg).1, fun g hg => ⟨fun hu => by rcases hu with hu | hu; exact (h2 g hg).1 hu; have := (h1.lt g hg).2; omega, (h2 g hg).2⟩, h3, fun j hj => (h4 j hj).chg hc⟩
theorem StRow.below {B : Nat} {S : Nat → Prop} {w w' : World} {v : Value} {sts : List (List Dk.Nm)} (h : StRow B S w v sts) (hb : Below w.heap.size w w') : StRow B S w' v sts := by
  obtain ⟨svs, h1, h2, h3, h4⟩ := h
  exact ⟨svs, ownsRow_same h1 fun g hg => hb.block g (h1.lt g hg).2, h2, h3, fun j hj => (h4 j hj).below hb⟩
/-- Its shape, and one of its lists. -/
theorem StRow.get {B : Nat} {S : Nat → Prop} {w : World} {v : Value} {sts : List (List Dk.Nm)} (h : StRow B S w v sts) (hp : 0 < sts.length) : ∃ g cap, v = .slice (some ⟨g, 0, none⟩) sts.length cap ∧ sts.length ≤ cap ∧ cap ≤ 9223372036854775807 ∧ ∀ j, j < sts.length → ∃ A c, w.cell? ⟨g, j, none⟩ = some (.slice A (sts.getD j []).length c) ∧ ReadsT w A (sts.getD j []) := by
  obtain ⟨svs, h1, h2, h3, h4⟩ := h
  rcases h1.2 with ⟨_, h0⟩ | ⟨g, cap, cur, e, _, hh, hn, hm, hs, ht⟩
  · omega
  · refine ⟨g, cap, by rw [e, h3], by omega, by simp only [maxLen] at hm; omega, fun j hj => ?_⟩
    obtain ⟨A, c, e2, hr, -⟩ := (h4 j (by omega)).own.reads
    refine ⟨A, c, ?_, hr⟩
    have hc := h1.cells (g := g) (by rw [e]; rfl) j (svs.getD j undef) (by simp [List.getD, show j < svs.length by omega])
    rw [show (⟨g, 0, none⟩ : Addr).add j = ⟨g, j, none⟩ from by rw [Addr.add_lit]; simp] at hc
    rw [hc, e2]

section
variable {w : World} {ops : Array Oper} {rest : List Oper} {o : Oper} {a : Act} {Q : Exit → Act → World → Prop}
end
end Go.Proofs.YtcmgppacipdnaaaGreatDoor
