/-
  The walks through rec's Time and the statements' Long; a batch that is built record by record.
-/
import Derived.Test.YthemdcdgiccjkaaDoorRcQ
import Derived.Test.YthemdcdgiccjkaaDoorHNum
namespace Go.Proofs.YthemdcdgiccjkaaDoor
open Go.RowKit

def Rc.maxT : List Rc.Rec → Int
  | [] => 0
  | r :: rs => rs.foldl (fun m x => max m x.t) r.t
theorem Rc.maxT_snoc (rs : List Rc.Rec) (r : Rc.Rec) (h : rs ≠ []) : Rc.maxT (rs ++ [r]) = max (Rc.maxT rs) r.t := by
  cases rs with
  | nil => exact absurd rfl h
  | cons a rs => simp [Rc.maxT, List.foldl_append]

set_option maxRecDepth 100000 in
set_option maxHeartbeats 1000000 in
theorem time_any (base epoch : Int) (rs : List Rc.Rec) (A : Option Addr) (cap n : Nat) (w : World) (hn : rs.length = n) (hm : n ≤ 9223372036854775807) (hr : Recs w A rs) :
    Calls Tryd.prog 33 #[batV base epoch A n cap] w fun e w' => e = .returned (.int .i64 (Rc.maxT rs)) ∧ Below w.heap.size w w' := by
  subst hn
  have hbb : Below w.heap.size w (w.alloc (.cells #[.int .i64 base, .int .i64 epoch, .slice A rs.length cap] 26)) := balloc (Below.refl _ _) _
  have HB0 := hide hbb
  cases hrs : rs with
  | nil =>
    subst hrs
    go_enter Tryd.func33, Tryd.ntmps33
    go_wp2_with fail
    go_ret
    exact ⟨rfl, HB0.out⟩
  | cons r0 rs0 =>
    rw [← hrs]
    have hpos : 0 < rs.length := by rw [hrs]; simp
    have hmax0 : Rc.maxT (rs.take 1) = (rs.getD 0 default).t := by rw [hrs]; rfl
    have HR := hide (hr.below hbb (Nat.le_refl _))
    have hr1 := hr.below hbb (Nat.le_refl _)
    rcases hr1 with h0 | ⟨bb, off, rfl, hb0, hcl⟩
    · rw [h0] at hpos; simp at hpos
    obtain ⟨Ak, ck, Av, cv, c0, -⟩ := (hcl 0 hpos).ex
    rw [Nat.zero_mul, Nat.add_zero] at c0
    have q1 : ((rs.length : Int) == 0) = false := by rw [beq_eq_false_iff_ne]; omega
    have HM0 := hide hmax0
    clear hcl hbb hr hmax0 hrs
    go_enter Tryd.func33, Tryd.ntmps33
    go_upto_block 0 with fail
    have HBL := hide hb0
    generalize hw1 : w.alloc (.cells #[.int .i64 base, .int .i64 epoch, .slice (some ⟨bb, off, none⟩) rs.length cap] 26) = w1 at *
    have HW1 := hide hw1
    clear hw1 hb0
    go_wp2_with fail
    go_loopw [3, 18] (fun m i wr => ∃ k : Nat, k ≤ rs.length ∧ i = .int .i64 k ∧ m = .int .i64 (Rc.maxT (rs.take (k - 1 + 1))) ∧ Below w1.heap.size w1 wr) (fun _ i _ => rs.length - (intOf i).toNat)
    case atStart =>
      have e : (rs.getD 0 default) = rs[0] := by simp [List.getD, hpos]
      exact ⟨0, Nat.zero_le _, rfl, by rw [show 0 - 1 + 1 = 1 from rfl, HM0.out, e], Below.refl _ _⟩
    case round =>
      obtain ⟨k, hk, rfl, rfl, hb⟩ := hrel
      have HBK := hide hb
      clear hb
      by_cases hlt : k < rs.length
      · rcases HR.out with h0 | ⟨b', off', e', hb0', hcl⟩
        · rw [h0] at hlt; simp at hlt
        injection e' with e'
        injection e' with e1 e2
        subst e1 e2
        obtain ⟨Ak', ck', Av', cv', d0, d1, d2, -⟩ := (hcl k hlt).ex
        have d0 := (HBK.out.cell (p := ⟨bb, off + k * 3, none⟩) hb0').trans d0
        have d1 := (HBK.out.cell (p := ⟨bb, off + k * 3 + 1, none⟩) hb0').trans d1
        have d2 := (HBK.out.cell (p := ⟨bb, off + k * 3 + 2, none⟩) hb0').trans d2
        have HN : Hid (Rc.maxT (rs.take (k + 1 - 1 + 1)) = max (Rc.maxT (rs.take (k - 1 + 1))) (rs.getD k default).t) := by
          show _ = _
          rw [show k + 1 - 1 + 1 = k + 1 by omega]
          have e2 : rs.take (k + 1) = rs.take k ++ [rs.getD k default] := by
            rw [List.take_succ_eq_append_getElem hlt]; simp [List.getD, hlt]
          rcases Nat.eq_zero_or_pos k with h0 | hp
          · subst h0
            have h := HM0.out
            simp only [Nat.zero_add, Nat.zero_sub] at h ⊢
            rw [h]; omega
          · rw [show k - 1 + 1 = k by omega, e2, Rc.maxT_snoc _ _ (by intro h; have := congrArg List.length h; rw [List.length_take, List.length_nil] at this; omega)]
        have HBN := hide (balloc HBK.out (.cells #[.int .i64 (rs.getD k default).t, .slice Ak' (rs.getD k default).k.length ck', .slice Av' (rs.getD k default).v.length cv'] 57))
        clear hcl
        generalize rs.getD k default = x at *
        obtain ⟨t, ky, vl⟩ := x
        simp only at d0 d1 d2 HN HBN
        generalize Rc.maxT (rs.take (k - 1 + 1)) = mk at *
        by_cases hx : mk < t
        · rw [show max mk t = t by omega] at HN
          have hx2 : ¬ t ≤ mk := by omega
          go_wp2_with fail
          refine ⟨⟨k + 1, by omega, by go_num, by rw [HN.out], HBN.out⟩, by simp [intOf]; omega⟩
        · rw [show max mk t = mk by omega] at HN
          by_cases hx3 : t = mk
          · subst hx3
            go_wp2_with fail
            refine ⟨⟨k + 1, by omega, by go_num, by rw [HN.out], HBN.out⟩, by simp [intOf]; omega⟩
          · have hx2 : t < mk := by omega
            go_wp2_with fail
            refine ⟨⟨k + 1, by omega, by go_num, by rw [HN.out], HBN.out⟩, by simp [intOf]; omega⟩
      · obtain rfl : k = rs.length := by omega
        have HE : Hid (rs.take (rs.length - 1 + 1) = rs) := by
          show _ = _
          rw [show rs.length - 1 + 1 = rs.length by omega, List.take_length]
        go_wp2_with fail
        go_ret
        exact ⟨by rw [HE.out]; rfl, HB0.out.trans (HBK.out.mono HB0.out.size)⟩

theorem long_any (n b : Int) (w : World) (hb : 0 < b) (hb1 : b ≤ 9223372036854775807) (h1 : -9223372036854775808 ≤ n) (h2 : n ≤ 9223372036854775807) :
    Calls Tryd.prog 32 #[.int .i64 n, .int .i64 b] w fun e w' => e = .returned (.int .i64 (n % b)) ∧ w = w' := by
  have m1 := Int.emod_nonneg n (show b ≠ 0 by omega)
  have m2 := Int.emod_lt_of_pos n hb
  by_cases h0 : 0 ≤ n
  · go_enter Tryd.func32, Tryd.ntmps32
    go_wp2
    go_ret
    exact ⟨rfl, rfl⟩
  · by_cases hm : n % b = 0
    · have t := tmod_nil n b hm
      rw [hm]
      clear hm m1 m2
      go_enter Tryd.func32, Tryd.ntmps32
      go_wp2
      go_ret
      exact ⟨rfl, rfl⟩
    · have t := tmod_up n b hb (by omega) hm
      have e : n % b - b + b = n % b := by omega
      generalize n % b = r at *
      go_enter Tryd.func32, Tryd.ntmps32
      go_wp2
      go_ret
      exact ⟨rfl, rfl⟩

/-- A batch in a block of its own, whose row of records grows. -/
structure Bld (w0 w : World) (B lo : Nat) (base ep : Int) (v : Value) (qs : List PRec) : Prop where
  c0 : w.cell? ⟨B, 0, none⟩ = some (.int .i64 base)
  c1 : w.cell? ⟨B, 1, none⟩ = some (.int .i64 ep)
  c2 : w.cell? ⟨B, 2, none⟩ = some v
  f : ∀ k, w.frozen? ⟨B, k, none⟩ = false
  ob : w0.heap.size ≤ B
  ol : B < lo
  os : lo ≤ w.heap.size
  row : Row w lo v qs
  below : Below w0.heap.size w0 w
theorem Bld.new {w0 w : World} (h : Below w0.heap.size w0 w) (base ep : Int) (t : TypeId) : Bld w0 (w.alloc (.cells #[.int .i64 base, .int .i64 ep, .slice none 0 0] t)) w.heap.size (w.heap.size + 1) base ep (.slice none 0 0) [] := by
  obtain ⟨m0, m1, m2⟩ := made3 w (.int .i64 base) (.int .i64 ep) (.slice none 0 0) t
  exact ⟨m0, m1, m2, fun k => by simp [go_sem], h.size, by omega, by simp, Row.nil _ _, h.trans ((balloc (Below.refl _ _) _).mono h.size)⟩
theorem Bld.quiet {w0 w w' : World} {B lo : Nat} {base ep : Int} {v : Value} {qs : List PRec} (h : Bld w0 w B lo base ep v qs) (hb : Below w.heap.size w w') : Bld w0 w' B lo base ep v qs := by
  have hB : B < w.heap.size := Nat.lt_of_lt_of_le h.ol h.os
  exact ⟨(hb.cell (p := ⟨B, 0, none⟩) hB).trans h.c0, (hb.cell (p := ⟨B, 1, none⟩) hB).trans h.c1, (hb.cell (p := ⟨B, 2, none⟩) hB).trans h.c2, fun k => (hb.frozen (p := ⟨B, k, none⟩) hB).trans (h.f k), h.ob, h.ol, Nat.le_trans h.os hb.size, h.row.below hb, h.below.trans (hb.mono h.below.size)⟩
theorem Bld.mid {w0 w w1 w2 : World} {B lo : Nat} {base ep : Int} {v : Value} {qs : List PRec} (h : Bld w0 w B lo base ep v qs) (hw1 : Below w.heap.size w w1) (hg : w1.grownBy w2 v.ownBlock) : w2.cell? ⟨B, 2, none⟩ = some v ∧ w2.frozen? ⟨B, 2, none⟩ = false := by
  have h1 := h.quiet hw1
  have hne : some B ≠ v.ownBlock := fun e => by have := (h.row.own.lt B e.symm).1; have := h.ol; omega
  exact ⟨hg.cell h1.c2 hne, (World.frozen?_of_block (a := ⟨B, 2, none⟩) (hg.block B (Nat.lt_of_lt_of_le h1.ol h1.os) hne)).trans (h1.f 2)⟩
theorem Bld.push {w0 w w1 w2 : World} {B lo : Nat} {base ep : Int} {v v' : Value} {qs : List PRec} {q : PRec} (h : Bld w0 w B lo base ep v qs) (hk : Txt w lo v q.Ak q.ck q.r.k) (hq : Txt w lo v q.Av q.cv q.r.v)
    (hw1 : Below w.heap.size w w1) (hg : w1.grownBy w2 v.ownBlock) (hv : v'.ownBlock = v.ownBlock ∨ v'.ownBlock = some w1.heap.size) (ho : w2.ownsRow lo 57 3 v' (qs.length + 1) (qs.flatMap PRec.cells ++ q.cells)) :
    Bld w0 (w2.setCell ⟨B, 2, none⟩ v') B lo base ep v' (qs ++ [q]) := by
  have h1 := h.quiet hw1
  have ob := h.ob
  have ol := h.ol
  have hB1 : B < w1.heap.size := Nat.lt_of_lt_of_le h1.ol h1.os
  have hvl : ∀ k, v.ownBlock = some k → lo ≤ k := fun k hk => (h.row.own.lt k hk).1
  have hne : some B ≠ v.ownBlock := fun e => by have := hvl B e.symm; omega
  have hrow := (h1.row).app (hk.below hw1) (hq.below hw1) hg (hv.imp id fun e => ⟨_, e, Nat.le_refl _⟩) ho
  have d2 := hg.cell h1.c2 hne
  have hb := grown_set w2 B 2 v'
  have h4 : ∀ k, k ≠ 2 → (w2.setCell ⟨B, 2, none⟩ v').cell? ⟨B, k, none⟩ = w2.cell? ⟨B, k, none⟩ := fun k hk => World.cell?_setCell_other _ _ _ _ (by simp [hk])
  have hs := hg.size
  have hs1 := h1.os
  refine ⟨(h4 0 (by omega)).trans (hg.cell h1.c0 hne), (h4 1 (by omega)).trans (hg.cell h1.c1 hne), World.cell?_setCell_same _ _ _ d2, fun k => (World.frozen?_setCell _ _ _ _).trans ((World.frozen?_of_block (a := ⟨B, k, none⟩) (hg.block B hB1 hne)).trans (h1.f k)), ob, ol, ?_, hrow.keep hb (by omega),
    (h1.below.grown hg h1.below.size (fun k hk => by have := hvl k hk; omega)).grown hb (Nat.le_trans h1.below.size hs) (fun k hk => by injection hk with hk; omega)⟩
  have := hb.size
  omega
theorem Txt.nil (w : World) (lo : Nat) (v : Value) : Txt w lo v none 0 [] := ⟨⟨Nat.le_refl _, by omega, fun _ => rfl, .inl rfl⟩, fun h => absurd rfl h⟩
end Go.Proofs.YthemdcdgiccjkaaDoor
