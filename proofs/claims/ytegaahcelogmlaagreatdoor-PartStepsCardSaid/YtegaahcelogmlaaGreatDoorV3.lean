/-
  Chapter 13's examples, walked; PartMakes, walked.
-/
import Derived.Test.YtegaahcelogmlaaGreatDoorV2
import Derived.Test.YtegaahcelogmlaaGreatDoorV0
import Derived.Test.YtegaahcelogmlaaGreatDoorRef
import Derived.Test.YtegaahcelogmlaaGreatDoorT4
namespace Go.Proofs.YtegaahcelogmlaaGreatDoor
open Go.RowKit Go.Maps

set_option maxRecDepth 100000 in
set_option maxHeartbeats 1000000 in
theorem paFirst_any (w : World) (ht : Tabs w) : Calls Tryz.prog 4 #[] w fun e w' => e = .returned (.bool true) ∧ Below w.heap.size w w' := by
  have HT := hide ht
  clear ht
  have kc := fun (w : World) (C : Array Value) (n c : Nat) => Lib.run_convert_bytes_const (P := Tryz.prog) w 22 5 C n c Tryz.underlying22 Tryz.underlying5
  have hcnt : St.cnt 5 2 = 3 := by decide
  go_enter Tryz.func4, Tryz.ntmps4
  go_wp2_with (first
    | (go_at_call 8; refine (paMake_any [97] (by decide) (some ⟨w.heap.size, 0, none⟩) 5 5 [49, 50, 51, 52, 53] 2 _ (Arg.made w [49, 50, 51, 52, 53] _ _ _ 5 rfl rfl (by omega)) rfl (by omega) (by omega) (by rw [hcnt]; omega) (HT.out.below (balloc (Below.refl _ _) _) (Nat.le_refl _))).mono ?_; rw [hcnt]; rintro e w2 ⟨rfl, hb⟩; have HB := hide ((balloc (Below.refl w.heap.size w) _).trans (hb.mono (by simp))); clear hb)
    | fail)
  go_ret
  exact ⟨rfl, balloc HB.out _⟩
end Go.Proofs.YtegaahcelogmlaaGreatDoor
