/-
  What is read of a batch's bytes, plainly: the batch.
  The walks through rec's Time and the statements' Long; a batch that is built record by record.
-/
import Derived.Test.YtcmgppacipdnaaaGreatDoorQRcR
import Derived.Test.YtcmgppacipdnaaaGreatDoorQVRdr
import Derived.Test.YtcmgppacipdnaaaGreatDoorQTable
namespace Go.Proofs.YtcmgppacipdnaaaGreatDoor
namespace Rc

def okR (r : Rec) : Prop := -1099511627776 ≤ r.t ∧ r.t ≤ 1099511627776 ∧ r.k.length ≤ 64 ∧ r.v.length ≤ 512

theorem step1_at (l tl : List UInt8) (k : Nat) (t st : Int) (r : Rec) (h : l.drop k = recB t r ++ tl) (hr : okR r) (ht : -1099511627776 ≤ t ∧ t ≤ 1099511627776) (h1 : -st ≤ r.t - t) (h2 : r.t - t ≤ st) :
    step1 l (fine k) t st = (r, fine (k + (recB t r).length)) := by
  obtain ⟨r1, r2, r3, r4⟩ := hr
  have hd1 : l.drop k = Vi.put (Vi.zz (r.t - t)) ++ ((Vi.put r.k.length ++ r.k) ++ ((Vi.put r.v.length ++ r.v) ++ tl)) := by
    rw [h]; unfold recB eT; simp only [List.append_assoc]
  have e1 : Vi.int l (fine k) (-st) st = (r.t - t, fine (k + Vi.size (Vi.zz (r.t - t)))) := by
    rw [int_at l _ k (r.t - t) (-st) st (by omega) (by omega) hd1, if_neg (by omega)]
  have hd2 : l.drop (k + Vi.size (Vi.zz (r.t - t))) = Vi.put r.k.length ++ (r.k ++ ((Vi.put r.v.length ++ r.v) ++ tl)) := by
    rw [← List.drop_drop, hd1]; rw [drop_pad _ _ _ (show (Vi.put (Vi.zz (r.t - t))).length = Vi.size (Vi.zz (r.t - t)) from rfl)]; simp only [List.append_assoc]
  have e2 := text_at l r.k ((Vi.put r.v.length ++ r.v) ++ tl) _ 64 (by omega) hd2 r3
  have hd3 : l.drop (k + Vi.size (Vi.zz (r.t - t)) + (Vi.size r.k.length + r.k.length)) = Vi.put r.v.length ++ (r.v ++ tl) := by
    rw [← List.drop_drop, hd2, ← List.append_assoc, drop_pad _ _ _ (by rw [List.length_append]; rfl)]; simp only [List.append_assoc]
  have e3 := text_at l r.v tl _ 512 (by omega) hd3 r4
  unfold step1
  simp only [e1, e2, e3]
  have hlen : (recB t r).length = Vi.size (Vi.zz (r.t - t)) + (Vi.size r.k.length + r.k.length) + (Vi.size r.v.length + r.v.length) := by
    unfold recB eT; simp only [List.length_append, Vi.size]
  refine Prod.ext ?_ ?_
  · cases r; simp; omega
  · simp only [hlen]; congr 1; omega

theorem loop_at (l tl : List UInt8) (many : Nat) (rs : List Rec) : ∀ (k : Nat) (t st : Int) (acc : List Rec), l.drop k = recsB t rs ++ tl → many = acc.length + rs.length → (∀ r ∈ rs, okR r) → (-1099511627776 ≤ t ∧ t ≤ 1099511627776) →
    (st = 2199023255552 ∨ (st = 0 ∧ ∀ r, rs.head? = some r → r.t = t)) → loop l many rs.length (fine k) t st acc = (acc ++ rs, fine (k + (recsB t rs).length)) := by
  induction rs with
  | nil => intro k t st acc h hm hr ht hs; simp [loop, recsB]
  | cons r rs ih =>
    intro k t st acc h hm hr ht hs
    have hr0 := hr r List.mem_cons_self
    have hst : -st ≤ r.t - t ∧ r.t - t ≤ st := by
      have := hr0.1
      have := hr0.2.1
      rcases hs with hs | ⟨hs, he⟩
      · omega
      · have := he r rfl
        omega
    have h1 := step1_at l (recsB r.t rs ++ tl) k t st r (by rw [h]; simp only [recsB, List.append_assoc]) hr0 ht hst.1 hst.2
    rw [List.length_cons, loop, if_pos ⟨by rw [hm, List.length_cons]; omega, rfl⟩, h1]
    have h2 := ih (k + (recB t r).length) r.t 2199023255552 (acc ++ [r]) (by rw [← List.drop_drop, h]; simp only [recsB, List.append_assoc]; exact drop_pad _ _ _ rfl) (by rw [hm]; simp; omega) (fun x hx => hr x (List.mem_cons_of_mem _ hx)) ⟨hr0.1, hr0.2.1⟩ (.inl rfl)
    simp only [h2]
    refine Prod.ext (by simp) ?_
    simp only [recsB, List.length_append]
    congr 1; omega

theorem fixed_at (l tl : List UInt8) (k n x : Nat) (h : l.drop k = le n x ++ tl) (hn0 : 0 < n) (hn : n ≤ 8) (hx : x < 256 ^ n) : Vi.fixed l (fine k) n = (x, fine (k + n)) := by
  have hl : l.length - k = n + tl.length := by
    have := congrArg List.length h
    rw [List.length_drop, List.length_append, le_len] at this
    exact this
  unfold Vi.fixed
  rw [if_neg (by simp [fine]; omega)]
  by_cases hnk : l.length < (fine k).at_ + ((n : Int)).toNat
  · simp only [fine, Int.toNat_natCast] at hnk
    omega
  · rw [if_neg hnk]
    simp only [fine, Int.toNat_natCast, h]
    rw [List.take_append_of_le_length (by rw [le_len]; omega), List.take_of_length_le (by rw [le_len]; omega), little_le n x hx]
    rfl

theorem body_read (b : Bat) (g : Good b) : parse (body b) = b ∧ okay (body b) = true := by
  obtain ⟨ba, hba⟩ := Int.eq_ofNat_of_zero_le g.base0
  obtain ⟨ep, hep⟩ := Int.eq_ofNat_of_zero_le g.ep0
  have hb1 := g.base1
  have he1 := g.ep1
  have hn1 := g.n1
  have hn0 := g.n0
  have hb : body b = le 8 ba ++ (le 4 ep ++ (le 2 b.recs.length ++ (Vi.put (Vi.zz (t0 b)) ++ recsB (t0 b) b.recs))) := by
    unfold body hd
    rw [hba, hep]
    simp only [List.append_assoc]
    rfl
  obtain ⟨l, hl⟩ : ∃ l, l = body b := ⟨_, rfl⟩
  rw [← hl] at hb ⊢
  have d1 := hb
  have h1 : head1 l = (ba, fine 8) := by
    have := fixed_at l _ 0 8 ba (by rw [List.drop_zero]; exact d1) (by omega) (by omega) (by rw [show (256 : Nat) ^ 8 = 18446744073709551616 from rfl]; omega)
    rw [Nat.zero_add] at this; exact this
  have d2 : l.drop 8 = le 4 ep ++ (le 2 b.recs.length ++ (Vi.put (Vi.zz (t0 b)) ++ recsB (t0 b) b.recs)) := by rw [d1]; exact drop_pad _ _ _ (le_len _ _)
  have h2 : head2 l = (ep, fine 12) := by
    unfold head2
    rw [h1]
    exact fixed_at l _ 8 4 ep d2 (by omega) (by omega) (by rw [show (256 : Nat) ^ 4 = 4294967296 from rfl]; omega)
  have d3 : l.drop 12 = le 2 b.recs.length ++ (Vi.put (Vi.zz (t0 b)) ++ recsB (t0 b) b.recs) := by
    rw [show (12 : Nat) = 8 + 4 from rfl, ← List.drop_drop, d2]; exact drop_pad _ _ _ (le_len _ _)
  have h3 : head3 l = (b.recs.length, fine 14) := by
    unfold head3
    rw [h2]
    exact fixed_at l _ 12 2 b.recs.length d3 (by omega) (by omega) (by rw [show (256 : Nat) ^ 2 = 65536 from rfl]; omega)
  have d4 : l.drop 14 = Vi.put (Vi.zz (t0 b)) ++ recsB (t0 b) b.recs := by
    rw [show (14 : Nat) = 12 + 2 from rfl, ← List.drop_drop, d3]; exact drop_pad _ _ _ (le_len _ _)
  have ht := g.t0
  have h4 : head4 l = (t0 b, fine (14 + Vi.size (Vi.zz (t0 b)))) := by
    unfold head4
    rw [h3, int_at l _ 14 (t0 b) _ _ (by omega) (by omega) d4, if_neg (by omega)]
  have d5 : l.drop (14 + Vi.size (Vi.zz (t0 b))) = recsB (t0 b) b.recs ++ [] := by
    rw [← List.drop_drop, d4, List.append_nil]; exact drop_pad _ _ _ rfl
  have h5 : tail l = (b.recs, fine (14 + Vi.size (Vi.zz (t0 b)) + (recsB (t0 b) b.recs).length)) := by
    unfold tail
    rw [h3, h4]
    have := loop_at l [] b.recs.length b.recs _ (t0 b) 0 [] d5 (by simp) (fun r hr => g.recs r hr) ht (.inr ⟨rfl, fun r hr => by
      unfold t0
      cases hrs : b.recs with
      | nil => rw [hrs] at hr; simp at hr
      | cons a rs => rw [hrs] at hr; simp at hr; subst hr; rfl⟩)
    simpa using this
  have hp : parse l = b := by
    unfold parse
    rw [h1, h2, h5]
    cases b with
    | mk base epoch recs =>
      simp only at hba hep hb1 ⊢
      subst hba hep
      congr 1
      unfold toI
      rw [if_pos (by simp only at *; omega)]
  refine ⟨hp, ?_⟩
  unfold okay
  rw [hp, h5]
  refine decide_eq_true ⟨rfl, ?_, (bad_good b).2 g⟩
  have : l.length = 14 + Vi.size (Vi.zz (t0 b)) + (recsB (t0 b) b.recs).length := by
    rw [hb]; simp only [List.length_append, le_len, Vi.size]; omega
  simp only [fine]
  omega

theorem bytes_read (b : Bat) (g : Good b) (rest : List UInt8) : rcode (bytes b ++ rest) = 0 ∧ rn (bytes b ++ rest) = (body b).length ∧ rbody (bytes b ++ rest) = body b := by
  have hbl := body_len b g
  have hn1 := g.n1
  have hsl := sumN_lt (body b)
  have e : bytes b ++ rest = le 4 (body b).length ++ (le 4 (sumN (body b)) ++ (body b ++ rest)) := by unfold bytes; simp only [List.append_assoc]
  have h1 : rn (bytes b ++ rest) = (body b).length := by
    unfold rn
    rw [e, List.take_append_of_le_length (by rw [le_len]; omega), List.take_of_length_le (by rw [le_len]; omega), little_le 4 _ (by rw [show (256 : Nat) ^ 4 = 4294967296 from rfl]; omega)]
  have h2 : rsum (bytes b ++ rest) = sumN (body b) := by
    unfold rsum
    rw [e, drop_pad _ _ _ (le_len _ _), List.take_append_of_le_length (by rw [le_len]; omega), List.take_of_length_le (by rw [le_len]; omega), little_le 4 _ (by rw [show (256 : Nat) ^ 4 = 4294967296 from rfl]; omega)]
  have h3 : rbody (bytes b ++ rest) = body b := by
    unfold rbody
    rw [h1, e, ← List.append_assoc (le 4 _), drop_pad _ _ _ (by simp only [List.length_append, le_len]), List.take_append_of_le_length (Nat.le_refl _), List.take_of_length_le (Nat.le_refl _)]
  have hl : (bytes b ++ rest).length = 8 + (body b).length + rest.length := by rw [List.length_append, bytes_len]
  refine ⟨?_, h1, h3⟩
  unfold rcode
  rw [if_neg (by omega), h1, if_neg (by omega), if_neg (by omega), h3, h2, if_neg (by simp), if_pos (body_read b g).2]
theorem bytes_rsize (b : Bat) (g : Good b) (rest : List UInt8) : rsize (bytes b ++ rest) = (bytes b).length := by
  obtain ⟨h0, h1, _⟩ := bytes_read b g rest
  unfold rsize
  rw [if_pos h0, h1, bytes_len]
end Rc
end Go.Proofs.YtcmgppacipdnaaaGreatDoor

namespace Go.Proofs.YtcmgppacipdnaaaGreatDoor
open Go.RowKit

def Rc.maxT : List Rc.Rec → Int
  | [] => 0
  | r :: rs => rs.foldl (fun m x => max m x.t) r.t
theorem Rc.maxT_snoc (rs : List Rc.Rec) (r : Rc.Rec) (h : rs ≠ []) : Rc.maxT (rs ++ [r]) = max (Rc.maxT rs) r.t := by
  cases rs with
  | nil => exact absurd rfl h
  | cons a rs => simp [Rc.maxT, List.foldl_append]

set_option maxRecDepth 100000 in
set_option maxHeartbeats 1000000 in
theorem time_any (base epoch : Int) (rs : List Rc.Rec) (A : Option Addr) (cap n : Nat) (w : World) (hn : rs.length = n) (hm : n ≤ 9223372036854775807) (hr : Recs w A rs) :
    Calls Tryz.prog 146 #[batV base epoch A n cap] w fun e w' => e = .returned (.int .i64 (Rc.maxT rs)) ∧ Below w.heap.size w w' := by
  subst hn
  have hbb : Below w.heap.size w (w.alloc (.cells #[.int .i64 base, .int .i64 epoch, .slice A rs.length cap] 36)) := balloc (Below.refl _ _) _
  have HB0 := hide hbb
  cases hrs : rs with
  | nil =>
    subst hrs
    go_enter Tryz.func146, Tryz.ntmps146
    go_wp2_with fail
    go_ret
    exact ⟨rfl, HB0.out⟩
  | cons r0 rs0 =>
    rw [← hrs]
    have hpos : 0 < rs.length := by rw [hrs]; simp
    have hmax0 : Rc.maxT (rs.take 1) = (rs.getD 0 default).t := by rw [hrs]; rfl
    have HR := hide (hr.below hbb (Nat.le_refl _))
    have hr1 := hr.below hbb (Nat.le_refl _)
    rcases hr1 with h0 | ⟨bb, off, rfl, hb0, hcl⟩
    · rw [h0] at hpos; simp at hpos
    obtain ⟨Ak, ck, Av, cv, c0, -⟩ := (hcl 0 hpos).ex
    rw [Nat.zero_mul, Nat.add_zero] at c0
    have q1 : ((rs.length : Int) == 0) = false := by rw [beq_eq_false_iff_ne]; omega
    have HM0 := hide hmax0
    clear hcl hbb hr hmax0 hrs
    go_enter Tryz.func146, Tryz.ntmps146
    go_upto_block 0 with fail
    have HBL := hide hb0
    generalize hw1 : w.alloc (.cells #[.int .i64 base, .int .i64 epoch, .slice (some ⟨bb, off, none⟩) rs.length cap] 36) = w1 at *
    have HW1 := hide hw1
    clear hw1 hb0
    go_wp2_with fail
    go_loopw [3, 18] (fun m i wr => ∃ k : Nat, k ≤ rs.length ∧ i = .int .i64 k ∧ m = .int .i64 (Rc.maxT (rs.take (k - 1 + 1))) ∧ Below w1.heap.size w1 wr) (fun _ i _ => rs.length - (intOf i).toNat)
    case atStart =>
      have e : (rs.getD 0 default) = rs[0] := by simp [List.getD, hpos]
      exact ⟨0, Nat.zero_le _, rfl, by rw [show 0 - 1 + 1 = 1 from rfl, HM0.out, e], Below.refl _ _⟩
    case round =>
      obtain ⟨k, hk, rfl, rfl, hb⟩ := hrel
      have HBK := hide hb
      clear hb
      by_cases hlt : k < rs.length
      · rcases HR.out with h0 | ⟨b', off', e', hb0', hcl⟩
        · rw [h0] at hlt; simp at hlt
        injection e' with e'
        injection e' with e1 e2
        subst e1 e2
        obtain ⟨Ak', ck', Av', cv', d0, d1, d2, -⟩ := (hcl k hlt).ex
        have d0 := (HBK.out.cell (p := ⟨bb, off + k * 3, none⟩) hb0').trans d0
        have d1 := (HBK.out.cell (p := ⟨bb, off + k * 3 + 1, none⟩) hb0').trans d1
        have d2 := (HBK.out.cell (p := ⟨bb, off + k * 3 + 2, none⟩) hb0').trans d2
        have HN : Hid (Rc.maxT (rs.take (k + 1 - 1 + 1)) = max (Rc.maxT (rs.take (k - 1 + 1))) (rs.getD k default).t) := by
          show _ = _
          rw [show k + 1 - 1 + 1 = k + 1 by omega]
          have e2 : rs.take (k + 1) = rs.take k ++ [rs.getD k default] := by
            rw [List.take_succ_eq_append_getElem hlt]; simp [List.getD, hlt]
          rcases Nat.eq_zero_or_pos k with h0 | hp
          · subst h0
            have h := HM0.out
            simp only [Nat.zero_add, Nat.zero_sub] at h ⊢
            rw [h]; omega
          · rw [show k - 1 + 1 = k by omega, e2, Rc.maxT_snoc _ _ (by intro h; have := congrArg List.length h; rw [List.length_take, List.length_nil] at this; omega)]
        have HBN := hide (balloc HBK.out (.cells #[.int .i64 (rs.getD k default).t, .slice Ak' (rs.getD k default).k.length ck', .slice Av' (rs.getD k default).v.length cv'] 80))
        clear hcl
        generalize rs.getD k default = x at *
        obtain ⟨t, ky, vl⟩ := x
        simp only at d0 d1 d2 HN HBN
        generalize Rc.maxT (rs.take (k - 1 + 1)) = mk at *
        by_cases hx : mk < t
        · rw [show max mk t = t by omega] at HN
          have hx2 : ¬ t ≤ mk := by omega
          go_wp2_with fail
          refine ⟨⟨k + 1, by omega, by go_num, by rw [HN.out], HBN.out⟩, by simp [intOf]; omega⟩
        · rw [show max mk t = mk by omega] at HN
          by_cases hx3 : t = mk
          · subst hx3
            go_wp2_with fail
            refine ⟨⟨k + 1, by omega, by go_num, by rw [HN.out], HBN.out⟩, by simp [intOf]; omega⟩
          · have hx2 : t < mk := by omega
            go_wp2_with fail
            refine ⟨⟨k + 1, by omega, by go_num, by rw [HN.out], HBN.out⟩, by simp [intOf]; omega⟩
      · obtain rfl : k = rs.length := by omega
        have HE : Hid (rs.take (rs.length - 1 + 1) = rs) := by
          show _ = _
          rw [show rs.length - 1 + 1 = rs.length by omega, List.take_length]
        go_wp2_with fail
        go_ret
        exact ⟨by rw [HE.out]; rfl, HB0.out.trans (HBK.out.mono HB0.out.size)⟩

theorem long_any (n b : Int) (w : World) (hb : 0 < b) (hb1 : b ≤ 9223372036854775807) (h1 : -9223372036854775808 ≤ n) (h2 : n ≤ 9223372036854775807) :
    Calls Tryz.prog 14 #[.int .i64 n, .int .i64 b] w fun e w' => e = .returned (.int .i64 (n % b)) ∧ w = w' := by
  have m1 := Int.emod_nonneg n (show b ≠ 0 by omega)
  have m2 := Int.emod_lt_of_pos n hb
  by_cases h0 : 0 ≤ n
  · go_enter Tryz.func14, Tryz.ntmps14
    go_wp2
    go_ret
    exact ⟨rfl, rfl⟩
  · by_cases hm : n % b = 0
    · have t := tmod_nil n b hm
      rw [hm]
      clear hm m1 m2
      go_enter Tryz.func14, Tryz.ntmps14
      go_wp2
      go_ret
      exact ⟨rfl, rfl⟩
    · have t := tmod_up n b hb (by omega) hm
      have e : n % b - b + b = n % b := by omega
      generalize n % b = r at *
      go_enter Tryz.func14, Tryz.ntmps14
      go_wp2
      go_ret
      exact ⟨rfl, rfl⟩

/-- A batch in a block of its own, whose row of records grows. -/
structure Bld (w0 w : World) (B lo : Nat) (base ep : Int) (v : Value) (qs : List PRec) : Prop where
  c0 : w.cell? ⟨B, 0, none⟩ = some (.int .i64 base)
  c1 : w.cell? ⟨B, 1, none⟩ = some (.int .i64 ep)
  c2 : w.cell? ⟨B, 2, none⟩ = some v
  f : ∀ k, w.frozen? ⟨B, k, none⟩ = false
  ob : w0.heap.size ≤ B
  ol : B < lo
  os : lo ≤ w.heap.size
  row : Row w lo v qs
  below : Below w0.heap.size w0 w
theorem Bld.new {w0 w : World} (h : Below w0.heap.size w0 w) (base ep : Int) (t : TypeId) : Bld w0 (w.alloc (.cells #[.int .i64 base, .int .i64 ep, .slice none 0 0] t)) w.heap.size (w.heap.size + 1) base ep (.slice none 0 0) [] := by
  obtain ⟨m0, m1, m2⟩ := made3 w (.int .i64 base) (.int .i64 ep) (.slice none 0 0) t
  exact ⟨m0, m1, m2, fun k => by simp [go_sem], h.size, by omega, by simp, Row.nil _ _, h.trans ((balloc (Below.refl _ _) _).mono h.size)⟩
theorem Bld.quiet {w0 w w' : World} {B lo : Nat} {base ep : Int} {v : Value} {qs : List PRec} (h : Bld w0 w B lo base ep v qs) (hb : Below w.heap.size w w') : Bld w0 w' B lo base ep v qs := by
  have hB : B < w.heap.size := Nat.lt_of_lt_of_le h.ol h.os
  exact ⟨(hb.cell (p := ⟨B, 0, none⟩) hB).trans h.c0, (hb.cell (p := ⟨B, 1, none⟩) hB).trans h.c1, (hb.cell (p := ⟨B, 2, none⟩) hB).trans h.c2, fun k => (hb.frozen (p := ⟨B, k, none⟩) hB).trans (h.f k), h.ob, h.ol, Nat.le_trans h.os hb.size, h.row.below hb, h.below.trans (hb.mono h.below.size)⟩
theorem Bld.mid {w0 w w1 w2 : World} {B lo : Nat} {base ep : Int} {v : Value} {qs : List PRec} (h : Bld w0 w B lo base ep v qs) (hw1 : Below w.heap.size w w1) (hg : w1.grownBy w2 v.ownBlock) : w2.cell? ⟨B, 2, none⟩ = some v ∧ w2.frozen? ⟨B, 2, none⟩ = false := by
  have h1 := h.quiet hw1
  have hne : some B ≠ v.ownBlock := fun e => by have := (h.row.own.lt B e.symm).1; have := h.ol; omega
  exact ⟨hg.cell h1.c2 hne, (World.frozen?_of_block (a := ⟨B, 2, none⟩) (hg.block B (Nat.lt_of_lt_of_le h1.ol h1.os) hne)).trans (h1.f 2)⟩
theorem Bld.push {w0 w w1 w2 : World} {B lo : Nat} {base ep : Int} {v v' : Value} {qs : List PRec} {q : PRec} (h : Bld w0 w B lo base ep v qs) (hk : Txt w lo v q.Ak q.ck q.r.k) (hq : Txt w lo v q.Av q.cv q.r.v)
    (hw1 : Below w.heap.size w w1) (hg : w1.grownBy w2 v.ownBlock) (hv : v'.ownBlock = v.ownBlock ∨ v'.ownBlock = some w1.heap.size) (ho : w2.ownsRow lo 80 3 v' (qs.length + 1) (qs.flatMap PRec.cells ++ q.cells)) :
    Bld w0 (w2.setCell ⟨B, 2, none⟩ v') B lo base ep v' (qs ++ [q]) := by
  have h1 := h.quiet hw1
  have ob := h.ob
  have ol := h.ol
  have hB1 : B < w1.heap.size := Nat.lt_of_lt_of_le h1.ol h1.os
  have hvl : ∀ k, v.ownBlock = some k → lo ≤ k := fun k hk => (h.row.own.lt k hk).1
  have hne : some B ≠ v.ownBlock := fun e => by have := hvl B e.symm; omega
  have hrow := (h1.row).app (hk.below hw1) (hq.below hw1) hg (hv.imp id fun e => ⟨_, e, Nat.le_refl _⟩) ho
  have d2 := hg.cell h1.c2 hne
  have hb := grown_set w2 B 2 v'
  have h4 : ∀ k, k ≠ 2 → (w2.setCell ⟨B, 2, none⟩ v').cell? ⟨B, k, none⟩ = w2.cell? ⟨B, k, none⟩ := fun k hk => World.cell?_setCell_other _ _ _ _ (by simp)
  have hs := hg.size
  have hs1 := h1.os
  refine ⟨(h4 0 (by omega)).trans (hg.cell h1.c0 hne), (h4 1 (by omega)).trans (hg.cell h1.c1 hne), World.cell?_setCell_same _ _ _ d2, fun k => (World.frozen?_setCell _ _ _ _).trans ((World.frozen?_of_block (a := ⟨B, k, none⟩) (hg.block B hB1 hne)).trans (h1.f k)), ob, ol, ?_, hrow.keep hb (by omega),
    (h1.below.grown hg h1.below.size (fun k hk => by have := hvl k hk; omega)).grown hb (Nat.le_trans h1.below.size hs) (fun k hk => by injection hk with hk; omega)⟩
  have := hb.size
  omega
theorem Txt.nil (w : World) (lo : Nat) (v : Value) : Txt w lo v none 0 [] := ⟨⟨Nat.le_refl _, by omega, fun _ => rfl, .inl rfl⟩, fun h => absurd rfl h⟩
end Go.Proofs.YtcmgppacipdnaaaGreatDoor
