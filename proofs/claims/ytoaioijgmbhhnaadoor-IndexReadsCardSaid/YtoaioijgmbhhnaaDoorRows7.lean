/-
  The walk through CrcRows: every sum in it is one sum, whatever the bytes and the cut.
-/
import Derived.Test.YtoaioijgmbhhnaaDoorSeal
import Derived.Test.YtoaioijgmbhhnaaDoorSums
import Derived.Test.YtoaioijgmbhhnaaDoorCuts
import Derived.Test.YtoaioijgmbhhnaaDoorOwnArg
import Derived.Test.YtoaioijgmbhhnaaDoorFrameA
import Derived.Test.YtoaioijgmbhhnaaDoorRegion
import Derived.Deep.DeepCutAuto
namespace Go.Proofs.YtoaioijgmbhhnaaDoor
open Go.RowKit Crc
attribute [local go_sem] BtoNat x32 n32 x8 and8_15 mod256 wrap8 xs32 Bd16toNat mul2

theorem sum_step (l : List UInt8) (k : Nat) (h : k < l.length) : sum (l.take (k + 1)) = more (sum (l.take k)) ((l.drop k).take 1) := by
  rw [more_sum, List.take_succ_eq_append_getElem h]
  congr 2
  rw [List.drop_eq_getElem_cons h]; rfl
theorem more_at (A : Option Addr) (cap n : Nat) (l : List UInt8) (s : BitVec 32) (w : World) (hn : l.length = n) (hl : n ≤ 9223372036854775807) (hr : Reads w A l) (ht : Tabs w) :
    Calls Tryd.prog 106 #[.int .u32 (U s), .slice A n cap] w fun e w' => e = .returned (.int .u32 (U (more s l))) ∧ ∃ n, w' = w.drewN n := by
  subst hn; exact more_any A cap l s w hl hr ht

theorem of_one (g n c : Nat) (A : Option Addr) (l : List UInt8) (W : World) (hc : W.cell? ⟨g, 0, none⟩ = some (.slice A n c)) (hn : l.length = n) (hl : n ≤ 1000000) (hr : Reads W A l) (ht : Tabs W) :
    Calls Tryd.prog 87 #[.slice (some ⟨g, 0, none⟩) 1 1] W fun e w' => e = .returned (.int .u32 (U (sum l))) ∧ ∃ k, w' = W.drewN k := by
  have hg : g < W.heap.size := by
    rcases Nat.lt_or_ge g W.heap.size with h | h
    · exact h
    · simp [World.cell?, Array.getElem?_eq_none h] at hc
  have h := of_at (some ⟨g, 0, none⟩) 1 1 [⟨A, c, l⟩] W rfl (Nat.le_of_ble_eq_true rfl) (.inr ⟨g, 0, rfl, hg, fun k hk => by
    have hk0 : k = 0 := by simpa using hk
    subst hk0
    exact ⟨by rw [Nat.zero_add, hc, ← hn]; rfl, by show l.length ≤ _; omega, hr⟩⟩) ht
  rwa [show flat [⟨A, c, l⟩] = l from by simp [flat]] at h

theorem of_B {w0 : World} (g n c : Nat) (A : Option Addr) (l : List UInt8) (W : World) (hb : Below w0.heap.size w0 W) (hc : W.cell? ⟨g, 0, none⟩ = some (.slice A n c)) (hn : l.length = n) (hl : n ≤ 1000000) (hr : Reads W A l) (ht : Tabs W) :
    Calls Tryd.prog 87 #[.slice (some ⟨g, 0, none⟩) 1 1] W fun e w' => e = .returned (.int .u32 (U (sum l))) ∧ Below w0.heap.size w0 w' :=
  (of_one g n c A l W hc hn hl hr ht).mono fun e w' ⟨he, k, hk⟩ => ⟨he, hk ▸ below_drewN hb k⟩
theorem more_B {w0 : World} (A : Option Addr) (cap n : Nat) (l : List UInt8) (s : BitVec 32) (W : World) (hb : Below w0.heap.size w0 W) (hn : l.length = n) (hl : n ≤ 1000000) (hr : Reads W A l) (ht : Tabs W) :
    Calls Tryd.prog 106 #[.int .u32 (U s), .slice A n cap] W fun e w' => e = .returned (.int .u32 (U (more s l))) ∧ Below w0.heap.size w0 w' :=
  (more_at A cap n l s W hn (by omega) hr ht).mono fun e w' ⟨he, k, hk⟩ => ⟨he, hk ▸ below_drewN hb k⟩
theorem seal_B {w0 : World} (A : Option Addr) (cap n : Nat) (l : List UInt8) (W : World) (hb : Below w0.heap.size w0 W) (hn : l.length = n) (hl : n ≤ 1000000) (hr : Reads W A l) (ht : Tabs W) (hw : 4 ≤ w0.heap.size) :
    Calls Tryd.prog 70 #[.slice A n cap] W fun e w' => ∃ A' c', e = .returned (.slice A' (n + 4) c') ∧ Own w' W.heap.size (.slice A' (n + 4) c') (l ++ little (sum l)) ∧ Reads w' A' (l ++ little (sum l)) ∧ Below W.heap.size W w' ∧ Below w0.heap.size w0 w' :=
  (seal_any A cap n l W hn hl hr ht (by have := hb.size; omega)).mono fun e w' ⟨v, he, ho, hk⟩ => by
    obtain ⟨A', c', hv, hr', _⟩ := ho.reads
    have e2 : (l ++ little (sum l)).length = n + 4 := by simp [little_len, hn]
    rw [e2] at hv
    subst hv
    exact ⟨A', c', he, ho, hr', hk, hb.trans (hk.mono hb.size)⟩

end Go.Proofs.YtoaioijgmbhhnaaDoor
