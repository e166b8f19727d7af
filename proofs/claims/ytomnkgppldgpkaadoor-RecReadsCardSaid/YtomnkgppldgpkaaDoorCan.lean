/-
  What is read of bytes is what is written as just these bytes: plainly. Nothing of any program is named here.
-/
import Derived.Test.YtomnkgppldgpkaaDoorRcQ
namespace Go.Proofs.YtomnkgppldgpkaaDoor

namespace Vi
theorem get_canon : ∀ (l : List UInt8) (i a n k : Nat), get i a l = (n, k, 0) → ∃ m r, l = put m ++ r ∧ n = a + m * 2 ^ (7 * i) ∧ k = i + size m ∧ (0 < i → 0 < m) := by
  intro l
  induction l with
  | nil => intro i a n k h; rw [get] at h; split at h <;> simp at h
  | cons c l ih =>
    intro i a n k h
    have hc := c.toNat_lt
    rw [get] at h
    split at h
    · simp at h
    · split at h
      · rename_i h128
        obtain ⟨m, r, e, hn, hk, hp⟩ := ih _ _ _ _ h
        have hp := hp (by omega)
        refine ⟨c.toNat % 128 + 128 * m, r, ?_, ?_, ?_, fun _ => by omega⟩
        · rw [put_ge (by omega), show (c.toNat % 128 + 128 * m) % 128 + 128 = c.toNat by omega, show (c.toNat % 128 + 128 * m) / 128 = m by omega, e, List.cons_append]
          congr 1
          apply UInt8.toNat_inj.1
          rw [byte_toNat hc]
        · rw [hn, pow7, Nat.add_mul, Nat.mul_assoc 128 m, Nat.mul_left_comm 128 m, Nat.add_assoc]
        · rw [hk, size_ge (n := c.toNat % 128 + 128 * m) (by omega), show (c.toNat % 128 + 128 * m) / 128 = m by omega]; omega
      · split at h
        · simp at h
        · rename_i h1 h2
          simp at h
          refine ⟨c.toNat, l, ?_, h.1.symm, ?_, fun h0 => ?_⟩
          · rw [put_lt (by omega)]
            have : UInt8.ofNat c.toNat = c := UInt8.toNat_inj.1 (byte_toNat hc)
            rw [this]; rfl
          · rw [size_lt (by omega)]; omega
          · omega
theorem zz_unzz (u : Nat) : zz (unzz u) = u := by
  unfold unzz zz
  split
  · rw [if_pos (by omega)]; omega
  · rw [if_neg (by omega)]; omega
theorem peek_stays {l : List UInt8} {s : Rs} {most : Nat} (h : (peek l s most).2.2.code = 0) : s.code = 0 := by
  unfold peek at h
  by_cases hc : s.code ≠ 0
  · rw [if_pos hc] at h; exact h
  · omega
theorem fail_code (s : Rs) (c : Nat) : (s.fail c).code = c := by unfold Rs.fail; split <;> simp_all
theorem peek_fine (l : List UInt8) (k most : Nat) : peek l (fine k) most = if (get 0 0 (l.drop k)).2.2 ≠ 0 then (0, 0, (fine k).fail (get 0 0 (l.drop k)).2.2) else if most < (get 0 0 (l.drop k)).1 then (0, 0, (fine k).fail 105) else ((get 0 0 (l.drop k)).1, (get 0 0 (l.drop k)).2.1, fine k) := by
  unfold peek
  rw [if_neg (by simp [fine])]
  rfl
theorem peekI_fine (l : List UInt8) (k : Nat) (lo hi : Int) : peekI l (fine k) lo hi = if (get 0 0 (l.drop k)).2.2 ≠ 0 then (0, 0, (fine k).fail (get 0 0 (l.drop k)).2.2) else if unzz (get 0 0 (l.drop k)).1 < lo ∨ hi < unzz (get 0 0 (l.drop k)).1 then (0, 0, (fine k).fail 105) else (unzz (get 0 0 (l.drop k)).1, (get 0 0 (l.drop k)).2.1, fine k) := by
  unfold peekI
  rw [if_neg (by simp [fine])]
  rfl
theorem num_canon {l : List UInt8} {k most : Nat} (h : (peek l (fine k) most).2.2.code = 0) : ∃ u r, l.drop k = put u ++ r ∧ u ≤ most ∧ u < 18446744073709551616 ∧ peek l (fine k) most = (u, size u, fine k) := by
  have hlt := (get_lt (l.drop k) 0 0 (by omega) (by omega)).1
  have hcn := get_canon (l.drop k) 0 0
  rw [peek_fine] at h ⊢
  generalize get 0 0 (l.drop k) = G at *
  obtain ⟨n, j, c⟩ := G
  simp only at h hlt hcn ⊢
  by_cases hc : c ≠ 0
  · rw [if_pos hc] at h; simp only [fail_code] at h; exact absurd h hc
  · rw [if_neg hc] at h ⊢
    by_cases hm : most < n
    · rw [if_pos hm] at h; simp only [fail_code] at h; omega
    · rw [if_neg hm]
      obtain rfl : c = 0 := by omega
      obtain ⟨m, r, e, hn, hk, _⟩ := hcn _ _ rfl
      simp at hn hk
      subst hn hk
      exact ⟨n, r, e, by omega, hlt, rfl⟩
theorem int_canon {l : List UInt8} {k : Nat} {lo hi : Int} (h : (Vi.int l (fine k) lo hi).2.code = 0) : ∃ n r, l.drop k = put (zz n) ++ r ∧ lo ≤ n ∧ n ≤ hi ∧ Vi.int l (fine k) lo hi = (n, fine (k + size (zz n))) := by
  have hcn := get_canon (l.drop k) 0 0
  unfold Vi.int at h ⊢
  rw [peekI_fine] at h ⊢
  generalize get 0 0 (l.drop k) = G at *
  obtain ⟨n, j, c⟩ := G
  simp only at h hcn ⊢
  by_cases hc : c ≠ 0
  · rw [if_pos hc] at h; simp only [Rs.on, fail_code] at h; exact absurd h hc
  · rw [if_neg hc] at h ⊢
    by_cases hm : unzz n < lo ∨ hi < unzz n
    · rw [if_pos hm] at h; simp only [Rs.on, fail_code] at h; omega
    · rw [if_neg hm]
      obtain rfl : c = 0 := by omega
      obtain ⟨m, r, e, hn, hk, _⟩ := hcn _ _ rfl
      simp at hn hk
      subst hn hk
      exact ⟨unzz n, r, by rw [zz_unzz]; exact e, by omega, by omega, by rw [zz_unzz]; rfl⟩
theorem int_stays {l : List UInt8} {s : Rs} {lo hi : Int} (h : (Vi.int l s lo hi).2.code = 0) : s.code = 0 := by
  unfold Vi.int peekI at h
  by_cases hc : s.code ≠ 0
  · rw [if_pos hc] at h; exact h
  · omega
theorem text_stays {l : List UInt8} {s : Rs} {most : Nat} (h : (Vi.text l s most).2.code = 0) : s.code = 0 := by
  unfold Vi.text at h
  by_cases hq : (peek l s most).2.2.code ≠ 0
  · simp only [if_pos hq] at h; exact absurd h hq
  · exact peek_stays (most := most) (l := l) (by omega)
theorem text_canon {l : List UInt8} {k most : Nat} (h : (Vi.text l (fine k) most).2.code = 0) : ∃ b r, l.drop k = put b.length ++ (b ++ r) ∧ b.length ≤ most ∧ Vi.text l (fine k) most = (b, fine (k + (size b.length + b.length))) := by
  unfold Vi.text at h ⊢
  by_cases hq : (peek l (fine k) most).2.2.code ≠ 0
  · simp only [if_pos hq] at h; exact absurd h hq
  · obtain ⟨u, r, e, hu, hlt, hp⟩ := num_canon (l := l) (k := k) (most := most) (by omega)
    rw [hp] at h ⊢
    simp only [if_neg (show ¬ (fine k).code ≠ 0 by simp [fine])] at h ⊢
    by_cases hl : l.length < (fine k).at_ + size u + u
    · rw [if_pos hl, fail_code] at h; omega
    · rw [if_neg hl]
      simp only [fine] at hl ⊢
      have hd : l.drop (k + size u) = r := by rw [← List.drop_drop, e]; exact drop_pad _ _ _ rfl
      have hrl : u ≤ r.length := by
        have := congrArg List.length hd
        rw [List.length_drop] at this; omega
      have hbl : (r.take u).length = u := by rw [List.length_take]; omega
      refine ⟨r.take u, r.drop u, by rw [hbl, List.take_append_drop]; exact e, by omega, ?_⟩
      rw [hd, hbl]; rfl
theorem fixed_stays {l : List UInt8} {s : Rs} {n : Int} (h : (Vi.fixed l s n).2.code = 0) : s.code = 0 := by
  unfold Vi.fixed at h
  by_cases hc : s.code ≠ 0
  · rw [if_pos (.inl hc)] at h; exact h
  · omega
theorem le_little : ∀ (l : List UInt8), Rc.le l.length (little l) = l := by
  intro l
  induction l with
  | nil => rfl
  | cons c l ih =>
    have hc := c.toNat_lt
    rw [List.length_cons, Rc.le, little, show (c.toNat + 256 * little l) / 256 = little l by omega, ih]
    congr 1
    apply UInt8.toNat_inj.1
    rw [UInt8.toNat_ofNat']; omega
theorem fixed_canon {l : List UInt8} {k n : Nat} (h0 : 0 < n) (hn : n ≤ 8) (h : (Vi.fixed l (fine k) n).2.code = 0) : ∃ x r, l.drop k = Rc.le n x ++ r ∧ x < 256 ^ n ∧ Vi.fixed l (fine k) n = (x, fine (k + n)) := by
  unfold Vi.fixed at h ⊢
  rw [if_neg (by simp [fine]; omega)] at h ⊢
  by_cases hl : l.length < (fine k).at_ + ((n : Int)).toNat
  · rw [if_pos hl, fail_code] at h; omega
  · rw [if_neg hl]
    simp only [fine, Int.toNat_natCast] at hl ⊢
    have hml : ((l.drop k).take n).length = n := by rw [List.length_take, List.length_drop]; omega
    refine ⟨little ((l.drop k).take n), (l.drop k).drop n, ?_, ?_, rfl⟩
    · have := le_little ((l.drop k).take n)
      rw [hml] at this
      rw [this, List.take_append_drop]
    · have := little_lt ((l.drop k).take n)
      rw [hml] at this
      rw [show (256 : Nat) = 2 ^ 8 from rfl, ← Nat.pow_mul]; exact this
end Vi

namespace Rc
theorem step1_code {l : List UInt8} {s : Vi.Rs} {t st : Int} (h : (step1 l s t st).2.code = 0) : s.code = 0 := by
  unfold step1 at h
  exact Vi.int_stays (Vi.text_stays (Vi.text_stays h))
/-- A record read. -/
theorem step1_canon {l : List UInt8} {k : Nat} {t st : Int} (h : (step1 l (fine k) t st).2.code = 0) : ∃ r tl, l.drop k = recB t r ++ tl ∧ -st ≤ r.t - t ∧ r.t - t ≤ st ∧ step1 l (fine k) t st = (r, fine (k + (recB t r).length)) := by
  have hv := h
  unfold step1 at hv
  have hk := Vi.text_stays hv
  have hi := Vi.text_stays hk
  obtain ⟨n, r1, e1, hl, hh, q1⟩ := Vi.int_canon hi
  unfold step1
  simp only [q1] at hv hk ⊢
  obtain ⟨b, r2, e2, hb, q2⟩ := Vi.text_canon hk
  simp only [q2] at hv ⊢
  obtain ⟨v, r3, e3, hvl, q3⟩ := Vi.text_canon hv
  simp only [q3]
  have d1 : r1 = Vi.put b.length ++ (b ++ r2) := by
    rw [← e2, ← List.drop_drop, e1]; exact (drop_pad _ _ _ rfl).symm
  have d2 : r2 = Vi.put v.length ++ (v ++ r3) := by
    rw [← e3, ← List.drop_drop, e2, ← List.append_assoc]; exact (drop_pad _ _ _ (by rw [List.length_append]; rfl)).symm
  refine ⟨⟨t + n, b, v⟩, r3, ?_, by simp; omega, by simp; omega, ?_⟩
  · rw [e1, d1, d2]
    unfold recB eT
    rw [show (t + n - t : Int) = n by omega]
    simp only [List.append_assoc]
  · have hlen : (recB t ⟨t + n, b, v⟩).length = Vi.size (Vi.zz n) + (Vi.size b.length + b.length) + (Vi.size v.length + v.length) := by
      unfold recB eT
      rw [show (t + n - t : Int) = n by omega]
      simp only [List.length_append, Vi.size]
    rw [hlen]
    congr 2; omega
theorem loop_code {l : List UInt8} {many : Nat} : ∀ (f : Nat) (s : Vi.Rs) (t st : Int) (acc : List Rec), (loop l many f s t st acc).2.code = 0 → s.code = 0 := by
  intro f
  cases f with
  | zero => intro s t st acc h; exact h
  | succ f =>
    intro s t st acc h
    rw [loop] at h
    by_cases hc : acc.length < many ∧ s.code = 0
    · exact hc.2
    · rw [if_neg hc] at h; exact h
theorem loop_canon {l : List UInt8} {many : Nat} : ∀ (f k : Nat) (t st : Int) (acc : List Rec), many = acc.length + f → (loop l many f (fine k) t st acc).2.code = 0 →
    ∃ rs tl, rs.length = f ∧ l.drop k = recsB t rs ++ tl ∧ loop l many f (fine k) t st acc = (acc ++ rs, fine (k + (recsB t rs).length)) ∧ ∀ r, rs.head? = some r → -st ≤ r.t - t ∧ r.t - t ≤ st := by
  intro f
  induction f with
  | zero => intro k t st acc hm h; exact ⟨[], l.drop k, rfl, rfl, by simp [loop, recsB], by simp⟩
  | succ f ih =>
    intro k t st acc hm h
    rw [loop, if_pos ⟨by omega, rfl⟩] at h ⊢
    obtain ⟨r, tl, e, h1, h2, q⟩ := step1_canon (loop_code _ _ _ _ _ h)
    simp only [q] at h ⊢
    obtain ⟨rs, tl2, hn, e2, q2, _⟩ := ih _ _ _ _ (by simp; omega) h
    refine ⟨r :: rs, tl2, by simp [hn], ?_, ?_, by simp; omega⟩
    · rw [e]
      simp only [recsB, List.append_assoc]
      rw [← e2, ← List.drop_drop, e, drop_pad _ _ _ rfl]
    · rw [q2]
      simp only [recsB, List.length_append, List.append_assoc, List.singleton_append]
      congr 2; omega
/-- What is read as a batch that may be is that batch's bytes. -/
theorem okay_canon {l : List UInt8} (h : okay l = true) : Good (parse l) ∧ body (parse l) = l := by
  have hd := of_decide_eq_true h
  obtain ⟨hc, hle, hb⟩ := hd
  have g := (bad_good _).1 hb
  refine ⟨g, ?_⟩
  have c4 : (head4 l).2.code = 0 := by unfold tail at hc; exact loop_code _ _ _ _ _ hc
  have c3 : (head3 l).2.code = 0 := by unfold head4 at c4; exact Vi.int_stays c4
  have c2 : (head2 l).2.code = 0 := by unfold head3 at c3; exact Vi.fixed_stays c3
  have c1 : (head1 l).2.code = 0 := by unfold head2 at c2; exact Vi.fixed_stays c2
  obtain ⟨x1, r1, e1, b1, q1⟩ := Vi.fixed_canon (l := l) (k := 0) (n := 8) (by omega) (by omega) c1
  have h1 : head1 l = (x1, fine 8) := q1
  unfold head2 at c2
  rw [h1] at c2
  obtain ⟨x2, r2, e2, b2, q2⟩ := Vi.fixed_canon (l := l) (k := 8) (n := 4) (by omega) (by omega) c2
  have h2 : head2 l = (x2, fine 12) := by unfold head2; rw [h1]; exact q2
  unfold head3 at c3
  rw [h2] at c3
  obtain ⟨x3, r3, e3, b3, q3⟩ := Vi.fixed_canon (l := l) (k := 12) (n := 2) (by omega) (by omega) c3
  have h3 : head3 l = (x3, fine 14) := by unfold head3; rw [h2]; exact q3
  unfold head4 at c4
  rw [h3] at c4
  obtain ⟨t, r4, e4, l4, m4, q4⟩ := Vi.int_canon (l := l) (k := 14) c4
  have h4 : head4 l = (t, fine (14 + Vi.size (Vi.zz t))) := by unfold head4; rw [h3]; exact q4
  unfold tail at hc
  rw [h3, h4] at hc
  simp only at hc
  obtain ⟨rs, tl, hn, e5, q5, h0⟩ := loop_canon (l := l) (many := x3) x3 _ t 0 [] (by simp) hc
  have h5 : tail l = (rs, fine (14 + Vi.size (Vi.zz t) + (recsB t rs).length)) := by unfold tail; rw [h3, h4]; simpa using q5
  have hp : parse l = ⟨toI x1, x2, rs⟩ := by unfold parse; rw [h1, h2, h5]
  rw [hp] at g ⊢
  rw [h5] at hle
  simp only [fine] at hle
  have g0 := g.n0
  simp only at g0
  have ht : t0 ⟨toI x1, x2, rs⟩ = t := by
    cases rs with
    | nil => simp at g0
    | cons r rs => have := h0 r rfl; show r.t = t; omega
  have gb := g.base0
  have gb1 := g.base1
  have gr := g.n1
  simp only at gb gb1 gr
  have hx1 : (toI x1).toNat = x1 := by unfold toI at gb gb1 ⊢; split at gb <;> split at gb1 <;> split <;> omega
  have hll : l.length = 14 + Vi.size (Vi.zz t) + (recsB t rs).length + tl.length := by
    have := congrArg List.length e5
    have h6 : 14 + Vi.size (Vi.zz t) ≤ l.length := by
      have := congrArg List.length e4
      rw [List.length_drop, List.length_append] at this
      have hz : (Vi.put (Vi.zz t)).length = Vi.size (Vi.zz t) := rfl
      have := Vi.size_pos (Vi.zz t)
      omega
    rw [List.length_drop, List.length_append] at this
    omega
  obtain rfl : tl = [] := List.eq_nil_of_length_eq_zero (by omega)
  rw [List.append_nil] at e5
  have d1 : r1 = l.drop 8 := by rw [show (8 : Nat) = 0 + 8 from rfl, ← List.drop_drop, e1]; exact (drop_pad _ _ _ (le_len _ _)).symm
  have d2 : r2 = l.drop 12 := by rw [show (12 : Nat) = 8 + 4 from rfl, ← List.drop_drop, e2]; exact (drop_pad _ _ _ (le_len _ _)).symm
  have d3 : r3 = l.drop 14 := by rw [show (14 : Nat) = 12 + 2 from rfl, ← List.drop_drop, e3]; exact (drop_pad _ _ _ (le_len _ _)).symm
  have d4 : r4 = l.drop (14 + Vi.size (Vi.zz t)) := by rw [← List.drop_drop, e4]; exact (drop_pad _ _ _ rfl).symm
  unfold body hd
  rw [ht]
  simp only [hx1, Int.toNat_natCast, hn]
  rw [List.drop_zero] at e1
  conv => rhs; rw [e1, d1, e2, d2, e3, d3, e4, d4, e5]
  simp only [List.append_assoc]

/-! The reference's way: greater steps. -/
def rstep (l : List UInt8) (s : Vi.Rs) (t : Int) : Rec × Vi.Rs := step1 l s t 1125899906842624
def rloop (l : List UInt8) (many : Nat) : Nat → Vi.Rs → Int → List Rec → List Rec × Vi.Rs
  | 0, s, _, acc => (acc, s)
  | f + 1, s, t, acc =>
    if acc.length < many ∧ acc.length ≤ 64 ∧ s.code = 0 then rloop l many f (rstep l s t).2 (rstep l s t).1.t (acc ++ [(rstep l s t).1]) else (acc, s)
theorem rloop_on (l : List UInt8) (many : Nat) (s : Vi.Rs) (t : Int) (acc : List Rec) (h : acc.length < many) (h2 : acc.length ≤ 64) (hc : s.code = 0) :
    rloop l many (many - acc.length) s t acc = rloop l many (many - (acc ++ [(rstep l s t).1]).length) (rstep l s t).2 (rstep l s t).1.t (acc ++ [(rstep l s t).1]) := by
  rw [show many - acc.length = (many - acc.length - 1) + 1 by omega, rloop, if_pos ⟨h, h2, hc⟩]
  congr 1
  rw [List.length_append]; simp; omega
theorem rloop_end (l : List UInt8) (many : Nat) (s : Vi.Rs) (t : Int) (acc : List Rec) (h : ¬ (acc.length < many ∧ acc.length ≤ 64 ∧ s.code = 0)) : rloop l many (many - acc.length) s t acc = (acc, s) := by
  cases hk : many - acc.length with
  | zero => rfl
  | succ k => rw [rloop, if_neg h]
def rhead4 (l : List UInt8) : Int × Vi.Rs := Vi.int l (head3 l).2 (-4611686018427387904) 4611686018427387904
def rtail (l : List UInt8) : List Rec × Vi.Rs := rloop l (head3 l).1 (head3 l).1 (rhead4 l).2 (rhead4 l).1 []
def rfine (l : List UInt8) : Bool := decide ((rtail l).2.code = 0 ∧ l.length ≤ (rtail l).2.at_ ∧ (rtail l).1.length = (head3 l).1)
def rparse (l : List UInt8) : Bat := if rfine l = true then ⟨toI (head1 l).1, (head2 l).1, (rtail l).1⟩ else ⟨0, 0, []⟩

theorem rloop_at (l tl : List UInt8) (many : Nat) (rs : List Rec) : ∀ (k : Nat) (t : Int) (acc : List Rec), l.drop k = recsB t rs ++ tl → many = acc.length + rs.length → many ≤ 64 → (∀ r ∈ rs, okR r) → (-1099511627776 ≤ t ∧ t ≤ 1099511627776) →
    rloop l many rs.length (fine k) t acc = (acc ++ rs, fine (k + (recsB t rs).length)) := by
  induction rs with
  | nil => intro k t acc h hm h64 hr ht; simp [rloop, recsB]
  | cons r rs ih =>
    intro k t acc h hm h64 hr ht
    have hr0 := hr r List.mem_cons_self
    have := hr0.1
    have := hr0.2.1
    have h1 := step1_at l (recsB r.t rs ++ tl) k t 1125899906842624 r (by rw [h]; simp only [recsB, List.append_assoc]) hr0 ht (by omega) (by omega)
    rw [List.length_cons] at hm
    rw [List.length_cons, rloop, if_pos ⟨by omega, by omega, rfl⟩]
    unfold rstep
    rw [h1]
    have h2 := ih (k + (recB t r).length) r.t (acc ++ [r]) (by rw [← List.drop_drop, h]; simp only [recsB, List.append_assoc]; exact drop_pad _ _ _ rfl) (by simp; omega) h64 (fun x hx => hr x (List.mem_cons_of_mem _ hx)) ⟨hr0.1, hr0.2.1⟩
    simp only [h2]
    refine Prod.ext (by simp) ?_
    simp only [recsB, List.length_append]
    congr 1; omega
theorem rbody_read (b : Bat) (g : Good b) : rparse (body b) = b := by
  obtain ⟨ba, hba⟩ := Int.eq_ofNat_of_zero_le g.base0
  obtain ⟨ep, hep⟩ := Int.eq_ofNat_of_zero_le g.ep0
  have hb1 := g.base1
  have he1 := g.ep1
  have hn1 := g.n1
  have hn0 := g.n0
  have hb : body b = le 8 ba ++ (le 4 ep ++ (le 2 b.recs.length ++ (Vi.put (Vi.zz (t0 b)) ++ recsB (t0 b) b.recs))) := by
    unfold body hd
    rw [hba, hep]
    simp only [List.append_assoc]
    rfl
  obtain ⟨l, hl⟩ : ∃ l, l = body b := ⟨_, rfl⟩
  rw [← hl] at hb ⊢
  have d1 := hb
  have h1 : head1 l = (ba, fine 8) := by
    have := fixed_at l _ 0 8 ba (by rw [List.drop_zero]; exact d1) (by omega) (by omega) (by rw [show (256 : Nat) ^ 8 = 18446744073709551616 from rfl]; omega)
    rw [Nat.zero_add] at this; exact this
  have d2 : l.drop 8 = le 4 ep ++ (le 2 b.recs.length ++ (Vi.put (Vi.zz (t0 b)) ++ recsB (t0 b) b.recs)) := by rw [d1]; exact drop_pad _ _ _ (le_len _ _)
  have h2 : head2 l = (ep, fine 12) := by
    unfold head2
    rw [h1]
    exact fixed_at l _ 8 4 ep d2 (by omega) (by omega) (by rw [show (256 : Nat) ^ 4 = 4294967296 from rfl]; omega)
  have d3 : l.drop 12 = le 2 b.recs.length ++ (Vi.put (Vi.zz (t0 b)) ++ recsB (t0 b) b.recs) := by
    rw [show (12 : Nat) = 8 + 4 from rfl, ← List.drop_drop, d2]; exact drop_pad _ _ _ (le_len _ _)
  have h3 : head3 l = (b.recs.length, fine 14) := by
    unfold head3
    rw [h2]
    exact fixed_at l _ 12 2 b.recs.length d3 (by omega) (by omega) (by rw [show (256 : Nat) ^ 2 = 65536 from rfl]; omega)
  have d4 : l.drop 14 = Vi.put (Vi.zz (t0 b)) ++ recsB (t0 b) b.recs := by
    rw [show (14 : Nat) = 12 + 2 from rfl, ← List.drop_drop, d3]; exact drop_pad _ _ _ (le_len _ _)
  have ht := g.t0
  have h4 : rhead4 l = (t0 b, fine (14 + Vi.size (Vi.zz (t0 b)))) := by
    unfold rhead4
    rw [h3, int_at l _ 14 (t0 b) _ _ (by omega) (by omega) d4, if_neg (by omega)]
  have d5 : l.drop (14 + Vi.size (Vi.zz (t0 b))) = recsB (t0 b) b.recs ++ [] := by
    rw [← List.drop_drop, d4, List.append_nil]; exact drop_pad _ _ _ rfl
  have h5 : rtail l = (b.recs, fine (14 + Vi.size (Vi.zz (t0 b)) + (recsB (t0 b) b.recs).length)) := by
    unfold rtail
    rw [h3, h4]
    have := rloop_at l [] b.recs.length b.recs _ (t0 b) [] d5 (by simp) hn1 (fun r hr => g.recs r hr) ht
    simpa using this
  have hlen : l.length = 14 + Vi.size (Vi.zz (t0 b)) + (recsB (t0 b) b.recs).length := by
    rw [hb]; simp only [List.length_append, le_len, Vi.size]; omega
  have hf : rfine l = true := by
    unfold rfine
    rw [h5, h3]
    refine decide_eq_true ⟨rfl, ?_, rfl⟩
    simp only [fine]; omega
  unfold rparse
  rw [if_pos hf, h1, h2, h5]
  cases b with
  | mk base epoch recs =>
    simp only at hba hep hb1 ⊢
    subst hba hep
    congr 1
    unfold toI
    rw [if_pos (by simp only at *; omega)]
/-- What the reference asks of what it read is what the program asks. -/
theorem verdict (l : List UInt8) : (okay l = true ↔ (bad (rparse l) = 0 ∧ body (rparse l) = l)) ∧ (okay l = true → rparse l = parse l) := by
  have h1 : okay l = true → rparse l = parse l := fun h => by
    obtain ⟨g, e⟩ := okay_canon h
    have := rbody_read _ g
    rw [e] at this; exact this
  refine ⟨⟨fun h => ?_, fun ⟨hb, e⟩ => ?_⟩, h1⟩
  · obtain ⟨g, e⟩ := okay_canon h
    rw [h1 h]; exact ⟨(bad_good _).2 g, e⟩
  · have g := (bad_good _).1 hb
    have := (body_read _ g).2
    rw [e] at this; exact this
end Rc
end Go.Proofs.YtomnkgppldgpkaaDoor
