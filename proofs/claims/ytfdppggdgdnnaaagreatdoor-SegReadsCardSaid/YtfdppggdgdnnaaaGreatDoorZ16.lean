/-
  What is read of bytes is what is written as just these bytes: plainly. Nothing of any program is named here.
  Package seg: Append.
  Package seg: take.
  Package seg: begin, Create.
  Package seg: Open, where the disk has no error.
-/
import Derived.Test.YtfdppggdgdnnaaaGreatDoorZ3
import Derived.Test.YtfdppggdgdnnaaaGreatDoorZ2
import Derived.Test.YtfdppggdgdnnaaaGreatDoorZ11
import Derived.Test.YtfdppggdgdnnaaaGreatDoorZ15
namespace Go.Proofs.YtfdppggdgdnnaaaGreatDoor

namespace Vi
theorem text_stays {l : List UInt8} {s : Rs} {most : Nat} (h : (Vi.text l s most).2.code = 0) : s.code = 0 := by
  unfold Vi.text at h
  by_cases hq : (peek l s most).2.2.code ≠ 0
  · simp only [if_pos hq] at h; exact absurd h hq
  · exact peek_stays (most := most) (l := l) (by omega)
theorem text_canon {l : List UInt8} {k most : Nat} (h : (Vi.text l (fine k) most).2.code = 0) : ∃ b r, l.drop k = put b.length ++ (b ++ r) ∧ b.length ≤ most ∧ Vi.text l (fine k) most = (b, fine (k + (size b.length + b.length))) := by
  unfold Vi.text at h ⊢
  by_cases hq : (peek l (fine k) most).2.2.code ≠ 0
  · simp only [if_pos hq] at h; exact absurd h hq
  · obtain ⟨u, r, e, hu, hlt, hp⟩ := num_canon (l := l) (k := k) (most := most) (by omega)
    rw [hp] at h ⊢
    simp only [if_neg (show ¬ (fine k).code ≠ 0 by simp [fine])] at h ⊢
    by_cases hl : l.length < (fine k).at_ + size u + u
    · rw [if_pos hl, fail_code] at h; omega
    · rw [if_neg hl]
      simp only [fine] at hl ⊢
      have hd : l.drop (k + size u) = r := by rw [← List.drop_drop, e]; exact drop_pad _ _ _ rfl
      have hrl : u ≤ r.length := by
        have := congrArg List.length hd
        rw [List.length_drop] at this; omega
      have hbl : (r.take u).length = u := by rw [List.length_take]; omega
      refine ⟨r.take u, r.drop u, by rw [hbl, List.take_append_drop]; exact e, by omega, ?_⟩
      rw [hd, hbl]; rfl
theorem fixed_stays {l : List UInt8} {s : Rs} {n : Int} (h : (Vi.fixed l s n).2.code = 0) : s.code = 0 := by
  unfold Vi.fixed at h
  by_cases hc : s.code ≠ 0
  · rw [if_pos (.inl hc)] at h; exact h
  · omega
theorem le_little : ∀ (l : List UInt8), Rc.le l.length (little l) = l := by
  intro l
  induction l with
  | nil => rfl
  | cons c l ih =>
    have hc := c.toNat_lt
    rw [List.length_cons, Rc.le, little, show (c.toNat + 256 * little l) / 256 = little l by omega, ih]
    congr 1
    apply UInt8.toNat_inj.1
    rw [UInt8.toNat_ofNat']; omega
theorem fixed_canon {l : List UInt8} {k n : Nat} (h0 : 0 < n) (hn : n ≤ 8) (h : (Vi.fixed l (fine k) n).2.code = 0) : ∃ x r, l.drop k = Rc.le n x ++ r ∧ x < 256 ^ n ∧ Vi.fixed l (fine k) n = (x, fine (k + n)) := by
  unfold Vi.fixed at h ⊢
  rw [if_neg (by simp [fine]; omega)] at h ⊢
  by_cases hl : l.length < (fine k).at_ + ((n : Int)).toNat
  · rw [if_pos hl, fail_code] at h; omega
  · rw [if_neg hl]
    simp only [fine, Int.toNat_natCast] at hl ⊢
    have hml : ((l.drop k).take n).length = n := by rw [List.length_take, List.length_drop]; omega
    refine ⟨little ((l.drop k).take n), (l.drop k).drop n, ?_, ?_, rfl⟩
    · have := le_little ((l.drop k).take n)
      rw [hml] at this
      rw [this, List.take_append_drop]
    · have := little_lt ((l.drop k).take n)
      rw [hml] at this
      rw [show (256 : Nat) = 2 ^ 8 from rfl, ← Nat.pow_mul]; exact this
end Vi

namespace Rc
theorem step1_code {l : List UInt8} {s : Vi.Rs} {t st : Int} (h : (step1 l s t st).2.code = 0) : s.code = 0 := by
  unfold step1 at h
  exact Vi.int_stays (Vi.text_stays (Vi.text_stays h))
/-- A record read. -/
theorem step1_canon {l : List UInt8} {k : Nat} {t st : Int} (h : (step1 l (fine k) t st).2.code = 0) : ∃ r tl, l.drop k = recB t r ++ tl ∧ -st ≤ r.t - t ∧ r.t - t ≤ st ∧ step1 l (fine k) t st = (r, fine (k + (recB t r).length)) := by
  have hv := h
  unfold step1 at hv
  have hk := Vi.text_stays hv
  have hi := Vi.text_stays hk
  obtain ⟨n, r1, e1, hl, hh, q1⟩ := Vi.int_canon hi
  unfold step1
  simp only [q1] at hv hk ⊢
  obtain ⟨b, r2, e2, hb, q2⟩ := Vi.text_canon hk
  simp only [q2] at hv ⊢
  obtain ⟨v, r3, e3, hvl, q3⟩ := Vi.text_canon hv
  simp only [q3]
  have d1 : r1 = Vi.put b.length ++ (b ++ r2) := by
    rw [← e2, ← List.drop_drop, e1]; exact (drop_pad _ _ _ rfl).symm
  have d2 : r2 = Vi.put v.length ++ (v ++ r3) := by
    rw [← e3, ← List.drop_drop, e2, ← List.append_assoc]; exact (drop_pad _ _ _ (by rw [List.length_append]; rfl)).symm
  refine ⟨⟨t + n, b, v⟩, r3, ?_, by simp; omega, by simp; omega, ?_⟩
  · rw [e1, d1, d2]
    unfold recB eT
    rw [show (t + n - t : Int) = n by omega]
    simp only [List.append_assoc]
  · have hlen : (recB t ⟨t + n, b, v⟩).length = Vi.size (Vi.zz n) + (Vi.size b.length + b.length) + (Vi.size v.length + v.length) := by
      unfold recB eT
      rw [show (t + n - t : Int) = n by omega]
      simp only [List.length_append, Vi.size]
    rw [hlen]
    congr 2; omega
theorem loop_code {l : List UInt8} {many : Nat} : ∀ (f : Nat) (s : Vi.Rs) (t st : Int) (acc : List Rec), (loop l many f s t st acc).2.code = 0 → s.code = 0 := by
  intro f
  cases f with
  | zero => intro s t st acc h; exact h
  | succ f =>
    intro s t st acc h
    rw [loop] at h
    by_cases hc : acc.length < many ∧ s.code = 0
    · exact hc.2
    · rw [if_neg hc] at h; exact h
theorem loop_canon {l : List UInt8} {many : Nat} : ∀ (f k : Nat) (t st : Int) (acc : List Rec), many = acc.length + f → (loop l many f (fine k) t st acc).2.code = 0 →
    ∃ rs tl, rs.length = f ∧ l.drop k = recsB t rs ++ tl ∧ loop l many f (fine k) t st acc = (acc ++ rs, fine (k + (recsB t rs).length)) ∧ ∀ r, rs.head? = some r → -st ≤ r.t - t ∧ r.t - t ≤ st := by
  intro f
  induction f with
  | zero => intro k t st acc hm h; exact ⟨[], l.drop k, rfl, rfl, by simp [loop, recsB], by simp⟩
  | succ f ih =>
    intro k t st acc hm h
    rw [loop, if_pos ⟨by omega, rfl⟩] at h ⊢
    obtain ⟨r, tl, e, h1, h2, q⟩ := step1_canon (loop_code _ _ _ _ _ h)
    simp only [q] at h ⊢
    obtain ⟨rs, tl2, hn, e2, q2, _⟩ := ih _ _ _ _ (by simp; omega) h
    refine ⟨r :: rs, tl2, by simp [hn], ?_, ?_, by simp; omega⟩
    · rw [e]
      simp only [recsB, List.append_assoc]
      rw [← e2, ← List.drop_drop, e, drop_pad _ _ _ rfl]
    · rw [q2]
      simp only [recsB, List.length_append, List.append_assoc, List.singleton_append]
      congr 2; omega
/-- What is read as a batch that may be is that batch's bytes. -/
theorem okay_canon {l : List UInt8} (h : okay l = true) : Good (parse l) ∧ body (parse l) = l := by
  have hd := of_decide_eq_true h
  obtain ⟨hc, hle, hb⟩ := hd
  have g := (bad_good _).1 hb
  refine ⟨g, ?_⟩
  have c4 : (head4 l).2.code = 0 := by unfold tail at hc; exact loop_code _ _ _ _ _ hc
  have c3 : (head3 l).2.code = 0 := by unfold head4 at c4; exact Vi.int_stays c4
  have c2 : (head2 l).2.code = 0 := by unfold head3 at c3; exact Vi.fixed_stays c3
  have c1 : (head1 l).2.code = 0 := by unfold head2 at c2; exact Vi.fixed_stays c2
  obtain ⟨x1, r1, e1, b1, q1⟩ := Vi.fixed_canon (l := l) (k := 0) (n := 8) (by omega) (by omega) c1
  have h1 : head1 l = (x1, fine 8) := q1
  unfold head2 at c2
  rw [h1] at c2
  obtain ⟨x2, r2, e2, b2, q2⟩ := Vi.fixed_canon (l := l) (k := 8) (n := 4) (by omega) (by omega) c2
  have h2 : head2 l = (x2, fine 12) := by unfold head2; rw [h1]; exact q2
  unfold head3 at c3
  rw [h2] at c3
  obtain ⟨x3, r3, e3, b3, q3⟩ := Vi.fixed_canon (l := l) (k := 12) (n := 2) (by omega) (by omega) c3
  have h3 : head3 l = (x3, fine 14) := by unfold head3; rw [h2]; exact q3
  unfold head4 at c4
  rw [h3] at c4
  obtain ⟨t, r4, e4, l4, m4, q4⟩ := Vi.int_canon (l := l) (k := 14) c4
  have h4 : head4 l = (t, fine (14 + Vi.size (Vi.zz t))) := by unfold head4; rw [h3]; exact q4
  unfold tail at hc
  rw [h3, h4] at hc
  simp only at hc
  obtain ⟨rs, tl, hn, e5, q5, h0⟩ := loop_canon (l := l) (many := x3) x3 _ t 0 [] (by simp) hc
  have h5 : tail l = (rs, fine (14 + Vi.size (Vi.zz t) + (recsB t rs).length)) := by unfold tail; rw [h3, h4]; simpa using q5
  have hp : parse l = ⟨toI x1, x2, rs⟩ := by unfold parse; rw [h1, h2, h5]
  rw [hp] at g ⊢
  rw [h5] at hle
  simp only [fine] at hle
  have g0 := g.n0
  simp only at g0
  have ht : t0 ⟨toI x1, x2, rs⟩ = t := by
    cases rs with
    | nil => simp at g0
    | cons r rs => have := h0 r rfl; show r.t = t; omega
  have gb := g.base0
  have gb1 := g.base1
  have gr := g.n1
  simp only at gb gb1 gr
  have hx1 : (toI x1).toNat = x1 := by unfold toI at gb gb1 ⊢; split at gb <;> split at gb1 <;> split <;> omega
  have hll : l.length = 14 + Vi.size (Vi.zz t) + (recsB t rs).length + tl.length := by
    have := congrArg List.length e5
    have h6 : 14 + Vi.size (Vi.zz t) ≤ l.length := by
      have := congrArg List.length e4
      rw [List.length_drop, List.length_append] at this
      have hz : (Vi.put (Vi.zz t)).length = Vi.size (Vi.zz t) := rfl
      have := Vi.size_pos (Vi.zz t)
      omega
    rw [List.length_drop, List.length_append] at this
    omega
  obtain rfl : tl = [] := List.eq_nil_of_length_eq_zero (by omega)
  rw [List.append_nil] at e5
  have d1 : r1 = l.drop 8 := by rw [show (8 : Nat) = 0 + 8 from rfl, ← List.drop_drop, e1]; exact (drop_pad _ _ _ (le_len _ _)).symm
  have d2 : r2 = l.drop 12 := by rw [show (12 : Nat) = 8 + 4 from rfl, ← List.drop_drop, e2]; exact (drop_pad _ _ _ (le_len _ _)).symm
  have d3 : r3 = l.drop 14 := by rw [show (14 : Nat) = 12 + 2 from rfl, ← List.drop_drop, e3]; exact (drop_pad _ _ _ (le_len _ _)).symm
  have d4 : r4 = l.drop (14 + Vi.size (Vi.zz t)) := by rw [← List.drop_drop, e4]; exact (drop_pad _ _ _ rfl).symm
  unfold body hd
  rw [ht]
  simp only [hx1, Int.toNat_natCast, hn]
  rw [List.drop_zero] at e1
  conv => rhs; rw [e1, d1, e2, d2, e3, d3, e4, d4, e5]
  simp only [List.append_assoc]

/-! The reference's way: greater steps. -/
def rstep (l : List UInt8) (s : Vi.Rs) (t : Int) : Rec × Vi.Rs := step1 l s t 1125899906842624
def rloop (l : List UInt8) (many : Nat) : Nat → Vi.Rs → Int → List Rec → List Rec × Vi.Rs
  | 0, s, _, acc => (acc, s)
  | f + 1, s, t, acc =>
    if acc.length < many ∧ acc.length ≤ 64 ∧ s.code = 0 then rloop l many f (rstep l s t).2 (rstep l s t).1.t (acc ++ [(rstep l s t).1]) else (acc, s)
theorem rloop_on (l : List UInt8) (many : Nat) (s : Vi.Rs) (t : Int) (acc : List Rec) (h : acc.length < many) (h2 : acc.length ≤ 64) (hc : s.code = 0) :
    rloop l many (many - acc.length) s t acc = rloop l many (many - (acc ++ [(rstep l s t).1]).length) (rstep l s t).2 (rstep l s t).1.t (acc ++ [(rstep l s t).1]) := by
  rw [show many - acc.length = (many - acc.length - 1) + 1 by omega, rloop, if_pos ⟨h, h2, hc⟩]
  congr 1
  rw [List.length_append]; simp; omega
theorem rloop_end (l : List UInt8) (many : Nat) (s : Vi.Rs) (t : Int) (acc : List Rec) (h : ¬ (acc.length < many ∧ acc.length ≤ 64 ∧ s.code = 0)) : rloop l many (many - acc.length) s t acc = (acc, s) := by
  cases hk : many - acc.length with
  | zero => rfl
  | succ k => rw [rloop, if_neg h]
def rhead4 (l : List UInt8) : Int × Vi.Rs := Vi.int l (head3 l).2 (-4611686018427387904) 4611686018427387904
def rtail (l : List UInt8) : List Rec × Vi.Rs := rloop l (head3 l).1 (head3 l).1 (rhead4 l).2 (rhead4 l).1 []
def rfine (l : List UInt8) : Bool := decide ((rtail l).2.code = 0 ∧ l.length ≤ (rtail l).2.at_ ∧ (rtail l).1.length = (head3 l).1)
def rparse (l : List UInt8) : Bat := if rfine l = true then ⟨toI (head1 l).1, (head2 l).1, (rtail l).1⟩ else ⟨0, 0, []⟩

theorem rloop_at (l tl : List UInt8) (many : Nat) (rs : List Rec) : ∀ (k : Nat) (t : Int) (acc : List Rec), l.drop k = recsB t rs ++ tl → many = acc.length + rs.length → many ≤ 64 → (∀ r ∈ rs, okR r) → (-1099511627776 ≤ t ∧ t ≤ 1099511627776) →
    rloop l many rs.length (fine k) t acc = (acc ++ rs, fine (k + (recsB t rs).length)) := by
  induction rs with
  | nil => intro k t acc h hm h64 hr ht; simp [rloop, recsB]
  | cons r rs ih =>
    intro k t acc h hm h64 hr ht
    have hr0 := hr r List.mem_cons_self
    have := hr0.1
    have := hr0.2.1
    have h1 := step1_at l (recsB r.t rs ++ tl) k t 1125899906842624 r (by rw [h]; simp only [recsB, List.append_assoc]) hr0 ht (by omega) (by omega)
    rw [List.length_cons] at hm
    rw [List.length_cons, rloop, if_pos ⟨by omega, by omega, rfl⟩]
    unfold rstep
    rw [h1]
    have h2 := ih (k + (recB t r).length) r.t (acc ++ [r]) (by rw [← List.drop_drop, h]; simp only [recsB, List.append_assoc]; exact drop_pad _ _ _ rfl) (by simp; omega) h64 (fun x hx => hr x (List.mem_cons_of_mem _ hx)) ⟨hr0.1, hr0.2.1⟩
    simp only [h2]
    refine Prod.ext (by simp) ?_
    simp only [recsB, List.length_append]
    congr 1; omega
theorem rbody_read (b : Bat) (g : Good b) : rparse (body b) = b := by
  obtain ⟨ba, hba⟩ := Int.eq_ofNat_of_zero_le g.base0
  obtain ⟨ep, hep⟩ := Int.eq_ofNat_of_zero_le g.ep0
  have hb1 := g.base1
  have he1 := g.ep1
  have hn1 := g.n1
  have hn0 := g.n0
  have hb : body b = le 8 ba ++ (le 4 ep ++ (le 2 b.recs.length ++ (Vi.put (Vi.zz (t0 b)) ++ recsB (t0 b) b.recs))) := by
    unfold body hd
    rw [hba, hep]
    simp only [List.append_assoc]
    rfl
  obtain ⟨l, hl⟩ : ∃ l, l = body b := ⟨_, rfl⟩
  rw [← hl] at hb ⊢
  have d1 := hb
  have h1 : head1 l = (ba, fine 8) := by
    have := fixed_at l _ 0 8 ba (by rw [List.drop_zero]; exact d1) (by omega) (by omega) (by rw [show (256 : Nat) ^ 8 = 18446744073709551616 from rfl]; omega)
    rw [Nat.zero_add] at this; exact this
  have d2 : l.drop 8 = le 4 ep ++ (le 2 b.recs.length ++ (Vi.put (Vi.zz (t0 b)) ++ recsB (t0 b) b.recs)) := by rw [d1]; exact drop_pad _ _ _ (le_len _ _)
  have h2 : head2 l = (ep, fine 12) := by
    unfold head2
    rw [h1]
    exact fixed_at l _ 8 4 ep d2 (by omega) (by omega) (by rw [show (256 : Nat) ^ 4 = 4294967296 from rfl]; omega)
  have d3 : l.drop 12 = le 2 b.recs.length ++ (Vi.put (Vi.zz (t0 b)) ++ recsB (t0 b) b.recs) := by
    rw [show (12 : Nat) = 8 + 4 from rfl, ← List.drop_drop, d2]; exact drop_pad _ _ _ (le_len _ _)
  have h3 : head3 l = (b.recs.length, fine 14) := by
    unfold head3
    rw [h2]
    exact fixed_at l _ 12 2 b.recs.length d3 (by omega) (by omega) (by rw [show (256 : Nat) ^ 2 = 65536 from rfl]; omega)
  have d4 : l.drop 14 = Vi.put (Vi.zz (t0 b)) ++ recsB (t0 b) b.recs := by
    rw [show (14 : Nat) = 12 + 2 from rfl, ← List.drop_drop, d3]; exact drop_pad _ _ _ (le_len _ _)
  have ht := g.t0
  have h4 : rhead4 l = (t0 b, fine (14 + Vi.size (Vi.zz (t0 b)))) := by
    unfold rhead4
    rw [h3, int_at l _ 14 (t0 b) _ _ (by omega) (by omega) d4, if_neg (by omega)]
  have d5 : l.drop (14 + Vi.size (Vi.zz (t0 b))) = recsB (t0 b) b.recs ++ [] := by
    rw [← List.drop_drop, d4, List.append_nil]; exact drop_pad _ _ _ rfl
  have h5 : rtail l = (b.recs, fine (14 + Vi.size (Vi.zz (t0 b)) + (recsB (t0 b) b.recs).length)) := by
    unfold rtail
    rw [h3, h4]
    have := rloop_at l [] b.recs.length b.recs _ (t0 b) [] d5 (by simp) hn1 (fun r hr => g.recs r hr) ht
    simpa using this
  have hlen : l.length = 14 + Vi.size (Vi.zz (t0 b)) + (recsB (t0 b) b.recs).length := by
    rw [hb]; simp only [List.length_append, le_len, Vi.size]; omega
  have hf : rfine l = true := by
    unfold rfine
    rw [h5, h3]
    refine decide_eq_true ⟨rfl, ?_, rfl⟩
    simp only [fine]; omega
  unfold rparse
  rw [if_pos hf, h1, h2, h5]
  cases b with
  | mk base epoch recs =>
    simp only at hba hep hb1 ⊢
    subst hba hep
    congr 1
    unfold toI
    rw [if_pos (by simp only at *; omega)]
/-- What the reference asks of what it read is what the program asks. -/
theorem verdict (l : List UInt8) : (okay l = true ↔ (bad (rparse l) = 0 ∧ body (rparse l) = l)) ∧ (okay l = true → rparse l = parse l) := by
  have h1 : okay l = true → rparse l = parse l := fun h => by
    obtain ⟨g, e⟩ := okay_canon h
    have := rbody_read _ g
    rw [e] at this; exact this
  refine ⟨⟨fun h => ?_, fun ⟨hb, e⟩ => ?_⟩, h1⟩
  · obtain ⟨g, e⟩ := okay_canon h
    rw [h1 h]; exact ⟨(bad_good _).2 g, e⟩
  · have g := (bad_good _).1 hb
    have := (body_read _ g).2
    rw [e] at this; exact this
end Rc
end Go.Proofs.YtfdppggdgdnnaaaGreatDoor

namespace Go.Proofs.YtfdppggdgdnnaaaGreatDoor
open Go.RowKit Go.Maps Go.Sort

theorem Rc.foldmax_bd (lo hi : Int) : ∀ (rs : List Rc.Rec) (t : Int), lo ≤ t ∧ t ≤ hi → (∀ r ∈ rs, lo ≤ r.t ∧ r.t ≤ hi) → lo ≤ rs.foldl (fun m r => max m r.t) t ∧ rs.foldl (fun m r => max m r.t) t ≤ hi
  | [], t, h, _ => h
  | r :: rs, t, h, hr => Rc.foldmax_bd lo hi rs (max t r.t) (by have := hr r List.mem_cons_self; omega) fun x hx => hr x (List.mem_cons_of_mem _ hx)
theorem Rc.maxT_bd (rs : List Rc.Rec) (h : ∀ r ∈ rs, -1099511627776 ≤ r.t ∧ r.t ≤ 1099511627776) : -1099511627776 ≤ Rc.maxT rs ∧ Rc.maxT rs ≤ 1099511627776 := by
  cases rs with
  | nil => exact ⟨by decide, by decide⟩
  | cons r rs => exact Rc.foldmax_bd _ _ rs r.t (h r List.mem_cons_self) fun x hx => h x (List.mem_cons_of_mem _ hx)
/-- What Append answers, and leaves. -/
def sgApp (d : Dk.St) (s : Sg.St) (b : Rc.Bat) : Option Nat × Dk.St × Sg.St :=
  if Rc.bad b ≠ 0 then (some (Rc.bad b - 101), d, s)
  else if Sg.follows s.edges b = false then (some 2, d, s)
  else ((d.append s.file (Rc.bytes b)).1, (d.append s.file (Rc.bytes b)).2, if (d.append s.file (Rc.bytes b)).1 = none then s.add b (Rc.bytes b).length else s)
theorem Sg.Ok.add {s : Sg.St} (h : Sg.Ok s) (b : Rc.Bat) (size : Nat) (hg : Rc.Good b) (hl : s.edges.length ≤ 90000) (hs : size ≤ 1000000) (hp : (Sg.last s.edges).pos ≤ 900000000) : Sg.Ok (s.add b size) := by
  have hm := Sg.last_mem h.ne
  have h0 := h.pos _ hm
  have ht := h.time _ hm
  have g0 := hg.base0
  have g1 := hg.base1
  have hmt : -1099511627776 ≤ Rc.maxT b.recs ∧ Rc.maxT b.recs ≤ 1099511627776 := Rc.maxT_bd b.recs fun r hr => ⟨(hg.recs r hr).1, (hg.recs r hr).2.1⟩
  have key : ∀ (P : Sg.Edge → Prop), (∀ e ∈ s.edges, P e) → P (Sg.step (Sg.last s.edges) b size) → ∀ e ∈ (s.add b size).edges, P e := fun P h1 h2 e he => by
    rcases List.mem_append.1 he with he | he
    · exact h1 e he
    · rw [List.mem_singleton] at he; subst he; exact h2
  refine ⟨by simp [Sg.St.add], by simp only [Sg.St.add, List.length_append, List.length_singleton]; omega, key _ h.off ?_, key _ h.pos ?_, key _ h.ep ⟨hg.ep0, hg.ep1⟩, key _ h.time ?_, h.every⟩
  · simp only [Sg.step]; omega
  · simp only [Sg.step]; omega
  · simp only [Sg.step]
    split
    · omega
    · exact hmt

set_option maxRecDepth 100000 in
set_option maxHeartbeats 400000 in
theorem sgAppend_anyQ (q : Nat) (hq : 1 ≤ q ∧ q ≤ 100) (w0 w : World) (S T : Nat → Prop) (n Bd X : Nat) (d : Dk.St) (s : Sg.St) (p : Nat → Addr) (b : Rc.Bat) (A : Option Addr) (cap m : Nat) (h : SgW w0 S T n Bd d X s w) (hs : SentsG w0 p) (ht : Tabs w0) (hn : n ≤ 1000) (hl : s.edges.length ≤ 90000) (hp : (Sg.last s.edges).pos ≤ 900000000)
    (hb : ∀ W, Chg (fun k => S k ∨ T k) w W → IsBat W A cap b) (hm : b.recs.length = m) (hlen : Rc.bad b = 0 → (Rc.bytes b).length ≤ 1000 * q) :
    Calls Tryz.prog 34 #[.pointer (some ⟨X, 0, none⟩), batV b.base b.epoch A m cap] w fun e w' => e = .returned (errR p (sgApp d s b).1) ∧ SgPost w0 S T (n + q) Bd (sgApp d s b).2.1 X (sgApp d s b).2.2 w w' := by
  have HH := hide h
  have HHB := hide h.below
  have HBT := hide hb
  have HS : Hid (∀ W, Below w.heap.size w W → SentsG W p) := hide (fun W hw => hs.below (h.below.trans (hw.mono h.below.size)))
  have HT : Hid (∀ W, Below w.heap.size w W → Tabs W) := hide (fun W hw => ht.below (h.below.trans (hw.mono h.below.size)) (Nat.le_refl _))
  have hW1 : Below w.heap.size w (w.alloc (.cells #[.int .i64 b.base, .int .i64 b.epoch, .slice A m cap] 41)) := balloc (Below.refl _ _) _
  have HW1 := hide hW1
  have y0 : (w.alloc (.cells #[.int .i64 b.base, .int .i64 b.epoch, .slice A m cap] 41)).cell? ⟨w.heap.size, 0, none⟩ = some (.int .i64 b.base) := by rw [World.cell?_alloc_mark]; rfl
  have y1 : (w.alloc (.cells #[.int .i64 b.base, .int .i64 b.epoch, .slice A m cap] 41)).cell? ⟨w.heap.size, 1, none⟩ = some (.int .i64 b.epoch) := by rw [World.cell?_alloc_mark]; rfl
  have y2 : (w.alloc (.cells #[.int .i64 b.base, .int .i64 b.epoch, .slice A m cap] 41)).cell? ⟨w.heap.size, 2, none⟩ = some (.slice A m cap) := by rw [World.cell?_alloc_mark]; rfl
  have hBz : w.heap.size < (w.alloc (.cells #[.int .i64 b.base, .int .i64 b.epoch, .slice A m cap] 41)).heap.size := by simp
  have HIB := hide (fun (W : World) (hw : Below w.heap.size w W) => HBT.out W (Chg.of_below hw))
  obtain ⟨R, hR⟩ : ∃ R, R = sgApp d s b := ⟨_, rfl⟩
  rw [← hR]
  have HR := hide hR
  have HSD := hide hs.d
  clear h hb hs ht hW1 hR
  by_cases hbad : Rc.bad b ≠ 0
  · have HRR : Hid (R = (some (Rc.bad b - 101), d, s)) := hide (by rw [HR.out]; unfold sgApp; rw [if_pos hbad])
    have HBY := hide (fun (W : World) (hw : Below w.heap.size w W) => batBytes_bad b A cap m W p (HIB.out W hw) (HS.out W hw).two hm hbad)
    have hnn := neq_nilD (p (Rc.bad b - 101))
    unfold errV at hnn HBY
    generalize hbb : Rc.bad b - 101 = bb at *
    generalize b.base = ba at *
    generalize b.epoch = ep at *
    unfold batV at *
    go_enter Tryz.func34, Tryz.ntmps34
    go_wp2_with (first
      | (go_at_call 73; refine (HBY.out _ HW1.out).mono ?_; rintro e w2 ⟨rfl, hb2⟩; have HB2 := hide (HW1.out.trans (hb2.mono HW1.out.size)); clear hb2)
      | fail)
    go_ret
    rw [HRR.out]
    exact ⟨rfl, SgPost.of_grow (HH.out.mono (Nat.le_add_right n q)) HB2.out⟩
  · have hb0 : Rc.bad b = 0 := by omega
    have hg := (Rc.bad_good b).1 hb0
    have HG := hide hg
    have HBY := hide (fun (W : World) (hw : Below w.heap.size w W) => batBytes_any b A cap m W p (HIB.out W hw) (HS.out W hw).two (HT.out W hw) hm hg)
    have hlen0 := hlen hb0
    have HFW := hide (fun (W : World) (hw : Below w.heap.size w W) => sgFollows_any X Bd s T b.base b.epoch A m cap W (HH.out.seg.below hw) HH.out.ok)
    have HFQ : Hid (Sg.follows s.edges b = (decide (b.base = (Sg.last s.edges).off) && decide ((Sg.last s.edges).ep ≤ b.epoch))) := hide rfl
    rw [← HFQ.out] at HFW
    clear hbad hlen
    cases hf : Sg.follows s.edges b with
    | false =>
      have HRR : Hid (R = (some 2, d, s)) := hide (by rw [HR.out]; unfold sgApp; rw [if_neg (by omega), if_pos hf])
      rw [hf] at HFW
      generalize b.base = ba at *
      generalize b.epoch = ep at *
      unfold batV at *
      go_enter Tryz.func34, Tryz.ntmps34
      go_wp2_with (first
        | (go_at_call 73; refine (HBY.out _ HW1.out).mono ?_; rintro e w2 ⟨v2, rfl, ho2, hb2⟩; have HB2 := hide (HW1.out.trans (hb2.mono HW1.out.size)); obtain ⟨A2, c2, rfl, ha2⟩ := ho2.arg; have z0 := (hb2.cell (p := ⟨w.heap.size, 0, none⟩) hBz).trans y0; have z1 := (hb2.cell (p := ⟨w.heap.size, 1, none⟩) hBz).trans y1; have z2 := (hb2.cell (p := ⟨w.heap.size, 2, none⟩) hBz).trans y2; clear hb2 ho2 ha2)
        | (go_at_call 74; refine (HFW.out _ HB2.out).mono ?_; rintro e w3 ⟨rfl, hb3⟩; have HB3 := hide (HB2.out.trans (hb3.mono HB2.out.size)); have g2 : w3.cell? ⟨2, 0, none⟩ = some (errV (p 2)) := (HS.out _ HB3.out).cell 2 (by omega); clear hb3)
        | fail)
      go_ret
      rw [HRR.out]
      exact ⟨rfl, SgPost.of_grow (HH.out.mono (Nat.le_add_right n q)) HB3.out⟩
    | true =>
      rw [hf] at HFW
      have HAP := hide (fun (W : World) (hw : Below w.heap.size w W) (A2 : Option Addr) (c2 : Nat) (ha : Arg W A2 c2 (Rc.bytes b)) (hA : ∀ x o, A2 = some ⟨x, o, none⟩ → w.heap.size ≤ x) => (HH.out.disk.grow hw).appendQ q hq p HSD.out hn s.file HH.out.nm A2 c2 (Rc.bytes b).length (Rc.bytes b) ha rfl (by omega) (fun x o e _ hS => by have := hA x o e; have := (HH.out.disk.lo x hS).2; omega))
      cases hr : d.append s.file (Rc.bytes b) with
      | mk r d' =>
        rw [hr] at HAP
        simp only at HAP
        have HADD := hide (fun (W : World) (hsg : SegAt W X Bd s T) (hib : IsBat W A cap b) => sgAdd_any X Bd s T b A cap m (Rc.bytes b).length W hsg HH.out.ok hl hib hm hg.base0 (by have := hg.base1; omega) (by omega))
        have HOK := hide (HH.out.ok.add b (Rc.bytes b).length hg hl (by omega) hp)
        have HRR : Hid (R = (r, d', if r = none then s.add b (Rc.bytes b).length else s)) := hide (by rw [HR.out]; unfold sgApp; rw [if_neg (by omega), if_neg (by rw [hf]; simp), hr])
        clear hr
        generalize b.base = ba at *
        generalize b.epoch = ep at *
        obtain ⟨v0, hsl⟩ := HH.out.seg
        have HSL := hide hsl
        clear hsl
        generalize hfe : encStr s.file = fv at *
        unfold batV at *
        cases r with
        | none =>
          rw [if_pos rfl] at HRR
          go_enter Tryz.func34, Tryz.ntmps34
          go_upto_region 6 with (first
            | (go_at_call 73; refine (HBY.out _ HW1.out).mono ?_; rintro e w2 ⟨v2, rfl, ho2, hb2⟩; have HB2 := hide (HW1.out.trans (hb2.mono HW1.out.size)); have hfar := ho2.lt; obtain ⟨A2, c2, rfl, ha2⟩ := ho2.arg; have HFAR : Hid (∀ x o, A2 = some ⟨x, o, none⟩ → w.heap.size ≤ x) := hide (fun x o e => by have h1 := (hfar x (by rw [e]; rfl)).1; have h2 := HW1.out.size; omega); have HA2 := hide ha2; have z0 := (hb2.cell (p := ⟨w.heap.size, 0, none⟩) hBz).trans y0; have z1 := (hb2.cell (p := ⟨w.heap.size, 1, none⟩) hBz).trans y1; have z2 := (hb2.cell (p := ⟨w.heap.size, 2, none⟩) hBz).trans y2; have hz2 : w.heap.size < w2.heap.size := Nat.lt_of_lt_of_le hBz hb2.size; clear hb2 ho2 ha2 hfar)
            | (go_at_call 74; refine (HFW.out _ HB2.out).mono ?_; rintro e w3 ⟨rfl, hb3⟩; have HB3 := hide (HB2.out.trans (hb3.mono HB2.out.size)); have HA3 := hide (HA2.out.below hb3 (Nat.le_refl _)); have q0 := (hb3.cell (p := ⟨w.heap.size, 0, none⟩) hz2).trans z0; have q1 := (hb3.cell (p := ⟨w.heap.size, 1, none⟩) hz2).trans z1; have q2 := (hb3.cell (p := ⟨w.heap.size, 2, none⟩) hz2).trans z2; clear hb3)
            | fail)
          have x0 : w3.cell? ⟨X, 0, none⟩ = some (.pointer (some ⟨Bd, 0, none⟩)) := box_cell (HSL.out.below HB3.out).box 0
          have x1 : w3.cell? ⟨X, 1, none⟩ = some fv := hfe ▸ box_cell (HSL.out.below HB3.out).box 1
          have HW3 := hide (HH.out.grow HB3.out)
          have HA3' := hide (HA3.out.below (Below.refl w3.heap.size w3).drew (Nat.le_refl _))
          go_still_tail 9, (by kernel_rfl)
          change wpList _ _ _ _ _ w3.drew
          go_wp2_with (first
            | (go_at_call 44; refine (HAP.out _ HB3.out.drew A2 c2 HA3'.out HFAR.out).mono ?_; rintro e w4 ⟨rfl, hd4, hc4⟩; have HP4 := hide (HW3.out.toldP (w' := w4) hd4 ((Chg.of_below (Below.refl w3.heap.size w3).drew).then hc4)); have hcw : Chg S w3 w4 := (Chg.of_below (Below.refl w3.heap.size w3).drew).then hc4; have hnS : ¬ S w.heap.size := fun hS => Nat.lt_irrefl _ (HH.out.disk.lo _ hS).2; have t0 := hcw.cell q0 hnS; have t1 := hcw.cell q1 hnS; have t2 := hcw.cell q2 hnS; have HIB4 := hide (HBT.out w4 ((Chg.of_below HB3.out).then (hcw.mono fun k hk => .inl hk))); clear hd4 hc4 hcw hnS; unfold errR)
            | (go_at_call 75; refine (HADD.out _ HP4.out.1.seg HIB4.out).mono ?_; rintro e w5 ⟨rfl, hs5, hc5⟩; have HP5 := hide (SgPost.of_seg HP4.out.1 hs5 hc5 HOK.out rfl); clear hs5 hc5)
            | fail)
          go_ret
          rw [HRR.out]
          exact ⟨rfl, SgPost.ahead HB3.out (SgPost.trans HP4.out HP5.out)⟩
        | some j =>
          rw [if_neg (by simp)] at HRR
          have hnn := neq_nilD (p j)
          unfold errV at hnn
          go_enter Tryz.func34, Tryz.ntmps34
          go_upto_region 6 with (first
            | (go_at_call 73; refine (HBY.out _ HW1.out).mono ?_; rintro e w2 ⟨v2, rfl, ho2, hb2⟩; have HB2 := hide (HW1.out.trans (hb2.mono HW1.out.size)); have hfar := ho2.lt; obtain ⟨A2, c2, rfl, ha2⟩ := ho2.arg; have HFAR : Hid (∀ x o, A2 = some ⟨x, o, none⟩ → w.heap.size ≤ x) := hide (fun x o e => by have h1 := (hfar x (by rw [e]; rfl)).1; have h2 := HW1.out.size; omega); have HA2 := hide ha2; have z0 := (hb2.cell (p := ⟨w.heap.size, 0, none⟩) hBz).trans y0; have z1 := (hb2.cell (p := ⟨w.heap.size, 1, none⟩) hBz).trans y1; have z2 := (hb2.cell (p := ⟨w.heap.size, 2, none⟩) hBz).trans y2; have hz2 : w.heap.size < w2.heap.size := Nat.lt_of_lt_of_le hBz hb2.size; clear hb2 ho2 ha2 hfar)
            | (go_at_call 74; refine (HFW.out _ HB2.out).mono ?_; rintro e w3 ⟨rfl, hb3⟩; have HB3 := hide (HB2.out.trans (hb3.mono HB2.out.size)); have HA3 := hide (HA2.out.below hb3 (Nat.le_refl _)); have q0 := (hb3.cell (p := ⟨w.heap.size, 0, none⟩) hz2).trans z0; have q1 := (hb3.cell (p := ⟨w.heap.size, 1, none⟩) hz2).trans z1; have q2 := (hb3.cell (p := ⟨w.heap.size, 2, none⟩) hz2).trans z2; clear hb3)
            | fail)
          have x0 : w3.cell? ⟨X, 0, none⟩ = some (.pointer (some ⟨Bd, 0, none⟩)) := box_cell (HSL.out.below HB3.out).box 0
          have x1 : w3.cell? ⟨X, 1, none⟩ = some fv := hfe ▸ box_cell (HSL.out.below HB3.out).box 1
          have HW3 := hide (HH.out.grow HB3.out)
          have HA3' := hide (HA3.out.below (Below.refl w3.heap.size w3).drew (Nat.le_refl _))
          go_still_tail 9, (by kernel_rfl)
          change wpList _ _ _ _ _ w3.drew
          go_wp2_with (first
            | (go_at_call 44; refine (HAP.out _ HB3.out.drew A2 c2 HA3'.out HFAR.out).mono ?_; rintro e w4 ⟨rfl, hd4, hc4⟩; have HP4 := hide (HW3.out.toldP (w' := w4) hd4 ((Chg.of_below (Below.refl w3.heap.size w3).drew).then hc4)); have hcw : Chg S w3 w4 := (Chg.of_below (Below.refl w3.heap.size w3).drew).then hc4; have hnS : ¬ S w.heap.size := fun hS => Nat.lt_irrefl _ (HH.out.disk.lo _ hS).2; have t0 := hcw.cell q0 hnS; have t1 := hcw.cell q1 hnS; have t2 := hcw.cell q2 hnS; have HIB4 := hide (HBT.out w4 ((Chg.of_below HB3.out).then (hcw.mono fun k hk => .inl hk))); clear hd4 hc4 hcw hnS; unfold errR errV)
            | fail)
          go_ret
          rw [HRR.out]
          exact ⟨rfl, SgPost.ahead HB3.out ⟨_, _, HP4.out⟩⟩
theorem sgAppend_any (w0 w : World) (S T : Nat → Prop) (n Bd X : Nat) (d : Dk.St) (s : Sg.St) (p : Nat → Addr) (b : Rc.Bat) (A : Option Addr) (cap m : Nat) (h : SgW w0 S T n Bd d X s w) (hs : SentsG w0 p) (ht : Tabs w0) (hn : n ≤ 1000) (hl : s.edges.length ≤ 90000) (hp : (Sg.last s.edges).pos ≤ 900000000)
    (hb : ∀ W, Chg (fun k => S k ∨ T k) w W → IsBat W A cap b) (hm : b.recs.length = m) (hlen : Rc.bad b = 0 → (Rc.bytes b).length ≤ 1000) :
    Calls Tryz.prog 34 #[.pointer (some ⟨X, 0, none⟩), batV b.base b.epoch A m cap] w fun e w' => e = .returned (errR p (sgApp d s b).1) ∧ SgPost w0 S T (n + 1) Bd (sgApp d s b).2.1 X (sgApp d s b).2.2 w w' :=
  sgAppend_anyQ 1 ⟨Nat.le_refl _, by omega⟩ w0 w S T n Bd X d s p b A cap m h hs ht hn hl hp hb hm hlen
end Go.Proofs.YtfdppggdgdnnaaaGreatDoor

namespace Go.Proofs.YtfdppggdgdnnaaaGreatDoor
open Go.RowKit Go.Shelf Go.Sort

namespace Sg
/-- Where a segment's batches end in its bytes. -/
def St.at_ (s : St) : Nat := (last s.edges).pos.toNat
/-- The batch that stands there and follows, with its size. -/
def next (l : List UInt8) (s : St) : Option (Rc.Bat × Nat) :=
  if Rc.rcode (l.drop s.at_) = 0 ∧ follows s.edges (Rc.parse (Rc.rbody (l.drop s.at_))) = true then some (Rc.parse (Rc.rbody (l.drop s.at_)), Rc.rsize (l.drop s.at_)) else none
def takeGo (l : List UInt8) : Nat → St → St
  | 0, s => s
  | f + 1, s => match next l s with
    | some (b, n) => takeGo l f (s.add b n)
    | none => s
theorem rgood (l : List UInt8) (h : Rc.rcode l = 0) : Rc.Good (Rc.parse (Rc.rbody l)) := by
  unfold Rc.rcode at h
  split at h
  · omega
  · split at h
    · omega
    · split at h
      · omega
      · split at h
        · omega
        · split at h
          · rename_i hok
            exact (Rc.okay_canon hok).1
          · omega
/-- What take leaves. -/
def take (l : List UInt8) (s : St) : St := takeGo l (l.length + 1 - s.at_) s
theorem add_at (s : St) (h : 0 ≤ (last s.edges).pos) (b : Rc.Bat) (n : Nat) : (s.add b n).at_ = s.at_ + n := by
  unfold St.at_ St.add
  simp only [last_snoc, step]
  omega
/-- How long the row of edges is. -/
def rowLen (w : World) (X : Nat) : Nat := match w.cell? ⟨X, 3, none⟩ with
  | some (.slice _ n _) => n
  | _ => 0
end Sg
theorem SegAt.rowLen {w : World} {X D : Nat} {s : Sg.St} {T : Nat → Prop} (h : SegAt w X D s T) : Sg.rowLen w X = s.edges.length := by
  obtain ⟨v, h⟩ := h
  obtain ⟨A, c, -, -, -, -, -, c3, -⟩ := h.cells
  unfold Sg.rowLen
  rw [c3]
theorem up_mono {S : Nat → Prop} {a b c : World} (h : b.heap.size ≤ c.heap.size) : ∀ k, Up S a b k → Up S a c k := by
  rintro k (hk | hk)
  · exact .inl hk
  · exact .inr (by omega)
set_option maxRecDepth 100000 in
set_option maxHeartbeats 2000000 in
theorem sgTake_any (w0 w : World) (T : Nat → Prop) (Bd X : Nat) (s : Sg.St) (p : Nat → Addr) (A : Option Addr) (cap n : Nat) (l : List UInt8) (h : SegAt w X Bd s T) (ho : Sg.Ok s) (hb0 : Below w0.heap.size w0 w) (hT0 : ∀ k, T k → w0.heap.size ≤ k ∧ k < w.heap.size) (hs : SentsG w0 p) (ht : Tabs w0)
    (hn : l.length = n) (hl : n ≤ 80000) (ha : Arg w A cap l) (hA : ∀ x o, A = some ⟨x, o, none⟩ → ¬ T x) (hst : s.at_ ≤ n) (hle : s.edges.length ≤ s.at_ + 1) :
    Calls Tryz.prog 88 #[.pointer (some ⟨X, 0, none⟩), .slice A n cap] w fun e w' => e = .returned (.tuple #[]) ∧ SegAt w' X Bd (Sg.take l s) (Up T w w') ∧ Chg T w w' ∧ Sg.Ok (Sg.take l s) ∧ (Sg.take l s).file = s.file := by
  subst hn
  have HH := hide h
  have HO := hide ho
  have HA := hide ha
  have HFA := hide hA
  have HS := hide hs
  have HT := hide ht
  have HB0 := hide hb0
  have HT0 := hide hT0
  clear h ho ha hA hs ht hb0 hT0
  go_enter Tryz.func88, Tryz.ntmps88
  go_wp2_with fail
  go_loopw [5] (fun _ wr => ∃ s' f, SegAt wr X Bd s' (Up T w wr) ∧ Chg T w wr ∧ Sg.Ok s' ∧ s'.file = s.file ∧ s'.at_ ≤ l.length ∧ s'.edges.length ≤ s'.at_ + 1 ∧ l.length + 1 - s'.at_ ≤ f ∧ Sg.takeGo l f s' = Sg.take l s) (fun _ wr => l.length + 2 - Sg.rowLen wr X)
  case atStart => exact ⟨s, _, HH.out.mono fun _ hk => .inl hk, Chg.refl _ _, HO.out, rfl, hst, hle, Nat.le_refl _, rfl⟩
  case round =>
    obtain ⟨s', f, hsg, hch, hok, hfl, hat, hel, hf, hgo⟩ := hrel
    have HSG := hide hsg
    have HCH := hide hch
    have HOK := hide hok
    have HGO := hide hgo
    have hpos := hok.pos _ (Sg.last_mem hok.ne)
    have hpe : (Sg.last s'.edges).pos = (s'.at_ : Int) := by unfold Sg.St.at_; omega
    have HRL := hide hsg.rowLen
    have HSZ := hide (sgSize_any X Bd s' _ wr hsg hok)
    rw [hpe] at HSZ
    have kcut : ∀ W, (Instr.sliceAt 32 (.slice A l.length cap) (some (.int .i64 (s'.at_ : Int))) none none).run Tryz.prog W = .ok (.slice (cutA A cap s'.at_) (l.length - s'.at_) (cap - s'.at_)) W := fun W => run_cut_l W A l.length cap s'.at_ hat
    have hw0r : Below w0.heap.size w0 wr := HB0.out.trans (hch.below HB0.out.size fun k hk => (HT0.out k hk).1)
    have HRD := hide (fun (W : World) (hw : Below wr.heap.size wr W) => read_any (cutA A cap s'.at_) (cap - s'.at_) (l.length - s'.at_) (l.drop s'.at_) W p (by rw [List.length_drop]) (by omega) (((HA.out.chg hch fun b o e _ => HFA.out b o e).below hw (Nat.le_refl _)).cut s'.at_ hat) (HS.out.five.below (hw0r.trans (hw.mono hw0r.size))) (HT.out.below (hw0r.trans (hw.mono hw0r.size)) (Nat.le_refl _)))
    have HRS := hide (Rc.rsize_le (l.drop s'.at_))
    obtain ⟨f, rfl⟩ : ∃ g, f = g + 1 := ⟨f - 1, by omega⟩
    have HPE := hide hpe
    clear hsg hch hok hgo hpos hpe hw0r
    by_cases hc : Rc.rcode (l.drop s'.at_) = 0
    · have hrs := HRS.out hc
      rw [List.length_drop] at hrs
      have hE : errOf p (Rc.rcode (l.drop s'.at_)) = .nilIface := by unfold errOf; rw [hc, if_pos rfl]
      unfold ReadPost at HRD
      rw [hE] at HRD
      have HGD := hide (Sg.rgood _ hc)
      have HNX : Hid (Sg.next l s' = if Sg.follows s'.edges (Rc.parse (Rc.rbody (l.drop s'.at_))) = true then some (Rc.parse (Rc.rbody (l.drop s'.at_)), Rc.rsize (l.drop s'.at_)) else none) := hide (by unfold Sg.next; simp [hc])
      have hcc := hide hc
      clear hE hc HRS
      generalize Rc.rsize (l.drop s'.at_) = rs at *
      generalize Rc.parse (Rc.rbody (l.drop s'.at_)) = nb at *
      generalize hA' : cutA A cap s'.at_ = A' at *
      clear hA'
      go_upto_region 1 with (first
        | (go_at_call 24; refine HSZ.out.mono ?_; rintro e w1 ⟨rfl, hb1⟩; have HB1 := hide hb1; clear hb1)
        | (go_at_call 119; refine (HRD.out _ HB1.out).mono ?_; rintro e w2 ⟨⟨val, rfl, hy, -⟩, hb2⟩; obtain ⟨An, cn, rfl, hnew⟩ := hy hcc.out; have HNEW := hide hnew; have HB2 := hide (HB1.out.trans (hb2.mono HB1.out.size)); clear hb2 hy hnew)
        | fail)
      obtain ⟨k0, k1, k2⟩ := made3 w2 (.int .i64 nb.base) (.int .i64 nb.epoch) (.slice An nb.recs.length cn) 41
      have hal : Below w2.heap.size w2 (w2.alloc (.cells #[.int .i64 nb.base, .int .i64 nb.epoch, .slice An nb.recs.length cn] 41)) := balloc (Below.refl _ _) _
      have HAL := hide hal
      have HB4 := hide (HB2.out.trans (hal.mono HB2.out.size))
      have hlt4 : w2.heap.size < (w2.alloc (.cells #[.int .i64 nb.base, .int .i64 nb.epoch, .slice An nb.recs.length cn] 41)).heap.size := by simp
      obtain ⟨gb, hgb⟩ : ∃ gb, gb = w2.heap.size := ⟨_, rfl⟩
      rw [← hgb] at k0 k1 k2 hlt4 ⊢
      clear hal hgb
      generalize w2.alloc (.cells #[.int .i64 nb.base, .int .i64 nb.epoch, .slice An nb.recs.length cn] 41) = w4 at *
      have HFW := hide (sgFollows_any X Bd s' (Up T w wr) nb.base nb.epoch An nb.recs.length cn w4 (HSG.out.below HB4.out) HOK.out)
      have HFQ : Hid (Sg.follows s'.edges nb = (decide (nb.base = (Sg.last s'.edges).off) && decide ((Sg.last s'.edges).ep ≤ nb.epoch))) := hide rfl
      rw [← HFQ.out] at HFW
      unfold batV at HFW
      cases hfw : Sg.follows s'.edges nb with
      | false =>
        rw [hfw] at HFW
        rw [hfw, if_neg (by simp)] at HNX
        have HALL : Hid (Sg.take l s = s') := hide (by
          have h := HGO.out
          rw [Sg.takeGo, HNX.out] at h
          exact h.symm)
        go_wp2_with (first
          | (go_at_call 74; refine HFW.out.mono ?_; rintro e w5 ⟨rfl, hb5⟩; have HB5 := hide (HB4.out.trans (hb5.mono HB4.out.size)); clear hb5)
          | fail)
        refine bodyPost_ret (results_none rfl _ _ _) rfl ?_
        rw [HALL.out]
        exact ⟨rfl, (HSG.out.below HB5.out).mono fun k hk => up_mono HB5.out.size k hk, HCH.out.then (Chg.of_below HB5.out), HOK.out, hfl⟩
      | true =>
        rw [hfw] at HFW
        rw [hfw, if_pos rfl] at HNX
        have HALL : Hid (Sg.takeGo l f (s'.add nb rs) = Sg.take l s) := hide (by
          have h := HGO.out
          rw [Sg.takeGo, HNX.out] at h
          exact h)
        have hg0 := HGD.out.base0
        have hg1 := HGD.out.base1
        have HADD := hide (fun (W : World) (hw : Below w4.heap.size w4 W) => sgAdd_any X Bd s' (Up T w wr) nb An cn nb.recs.length rs W (HSG.out.below (HB4.out.trans (hw.mono HB4.out.size))) HOK.out (by omega) (HNEW.out W (Above.of_below (HAL.out.trans (hw.mono HAL.out.size)))) rfl hg0 (by omega) (by omega))
        unfold batV at HADD
        go_wp2_with (first
          | (go_at_call 74; refine HFW.out.mono ?_; rintro e w5 ⟨rfl, hb5⟩; have HB5 := hide hb5; have q0 := (hb5.cell (p := ⟨gb, 0, none⟩) hlt4).trans k0; have q1 := (hb5.cell (p := ⟨gb, 1, none⟩) hlt4).trans k1; have q2 := (hb5.cell (p := ⟨gb, 2, none⟩) hlt4).trans k2; clear hb5)
          | (go_at_call 75; refine (HADD.out _ HB5.out).mono ?_; rintro e w6 ⟨rfl, hs6, hc6⟩; have HS6 := hide hs6; have HC6 := hide hc6; clear hs6 hc6)
          | fail)
        have hb45 : Below wr.heap.size wr w5 := HB4.out.trans (HB5.out.mono HB4.out.size)
        have hz5 := hb45.size
        have hz6 := HC6.out.size
        have hzw := HCH.out.size
        have hpp := HPE.out
        have hck : Chg T w w6 := (HCH.out.then (Chg.of_below hb45)).trans HC6.out (fun k hk ht => by
          rcases ht with ht | ht
          · exact ht
          · omega)
        have hsk : SegAt w6 X Bd (s'.add nb rs) (Up T w w6) := HS6.out.mono fun k hk => by
          rcases hk with (hk | hk) | hk
          · exact .inl hk
          · exact .inr (by omega)
          · exact .inr (by omega)
        have hrl := hsk.rowLen
        have hel2 : (s'.add nb rs).edges.length = s'.edges.length + 1 := by simp [Sg.St.add]
        have hat2 := Sg.add_at s' (by omega) nb rs
        go_roundw
        case rel => exact ⟨s'.add nb rs, f, hsk, hck, HOK.out.add nb rs HGD.out (by omega) (by omega) (by omega), hfl, by omega, by omega, by omega, HALL.out⟩
        case measure =>
          have := HRL.out
          omega
    · have HALL : Hid (Sg.take l s = s') := hide (by
        have h := HGO.out
        have hnx : Sg.next l s' = none := by unfold Sg.next; rw [if_neg (fun h => hc h.1)]
        rw [Sg.takeGo, hnx] at h
        exact h.symm)
      have hE : errOf p (Rc.rcode (l.drop s'.at_)) = .iface 258 (.pointer (some (p (Rc.rcode (l.drop s'.at_) - 101)))) := by unfold errOf; rw [if_neg hc]; rfl
      unfold ReadPost at HRD
      rw [hE] at HRD
      have hcc := hide hc
      clear hE HRS hc
      generalize (.pointer (some (p (Rc.rcode (l.drop s'.at_) - 101))) : Value) = xe at *
      generalize hA' : cutA A cap s'.at_ = A' at *
      clear hA'
      have kne := neq_nil 258 xe
      go_wp2_with (first
        | (go_at_call 24; refine HSZ.out.mono ?_; rintro e w1 ⟨rfl, hb1⟩; have HB1 := hide hb1; clear hb1)
        | (go_at_call 119; refine (HRD.out _ HB1.out).mono ?_; rintro e w2 ⟨⟨val, rfl, -, hno⟩, hb2⟩; obtain rfl := hno hcc.out; have HB2 := hide (HB1.out.trans (hb2.mono HB1.out.size)); clear hb2 hno)
        | fail)
      have hb3 : Below wr.heap.size wr (w2.alloc (.cells #[.int .i64 0, .int .i64 0, .slice none 0 0] 41)) := balloc HB2.out _
      refine bodyPost_ret (results_none rfl _ _ _) rfl ?_
      rw [HALL.out]
      exact ⟨rfl, (HSG.out.below hb3).mono fun k hk => up_mono hb3.size k hk, HCH.out.then (Chg.of_below hb3), HOK.out, hfl⟩
end Go.Proofs.YtfdppggdgdnnaaaGreatDoor

namespace Go.Proofs.YtfdppggdgdnnaaaGreatDoor
open Go.RowKit Go.Maps Go.Sort

theorem seg_name {base : Int} (h : 0 ≤ base ∧ base ≤ 1099511627776) : (Nm.seg base).length = 17 := by
  unfold Nm.seg
  rw [if_pos (show Nm.right base from h)]
  exact Nm.segN_length _

set_option maxRecDepth 100000 in
set_option maxHeartbeats 1000000 in
theorem sgBegin_any (D : Nat) (base every : Int) (w : World) (h0 : 0 ≤ base ∧ base ≤ 1099511627776) (h1 : 1 ≤ every ∧ every ≤ 1048576) (ht : PowTab w) :
    Calls Tryz.prog 76 #[.pointer (some ⟨D, 0, none⟩), .int .i64 base, .int .i64 every] w fun e w' => ∃ X, e = .returned (.tuple #[.pointer (some ⟨X, 0, none⟩), .nilIface]) ∧ SegAt w' X D (Sg.begin (Nm.seg base) base every) (fun k => w.heap.size ≤ k ∧ k < w'.heap.size) ∧ Below w.heap.size w w' := by
  have HSG := hide (segment_any base w ht)
  have HNW := hide (fun (W : World) => ixNew_any every W h1)
  have hl := seg_name h0
  generalize Nm.seg base = r at *
  have hz : r.isEmpty = false := by
    cases r with
    | nil => simp at hl
    | cons a r => rfl
  clear ht hl
  go_enter Tryz.func76, Tryz.ntmps76
  go_wp2_with (first
    | (go_at_call 111; refine HSG.out.mono ?_; rintro e w1 ⟨rfl, hb1⟩; have HB1 := hide hb1; clear hb1)
    | (go_at_call 14; refine (HNW.out _).mono ?_; rintro e w2 ⟨rfl, -, hb2⟩; have HB2 := hide (HB1.out.trans (hb2.mono HB1.out.size)); clear hb2)
    | fail)
  go_ret2
  refine ⟨w2.heap.size + 1, by simp, ⟨.slice (some ⟨w2.heap.size, 0, none⟩) 1 1, ?_, ?_, ?_, ?_⟩, balloc (balloc HB2.out _) _⟩
  · have h := heap_alloc_new (w2.alloc (.cells #[.int .i64 base, .int .i64 0, .int .i64 0, .int .i64 0] 106)) (.cells (sgCells D (Sg.begin r base every) (.slice (some ⟨w2.heap.size, 0, none⟩) 1 1)) 104)
    simpa [sgCells, Sg.begin] using h
  · refine ⟨rfl, .inr ⟨w2.heap.size, 1, #[.int .i64 base, .int .i64 0, .int .i64 0, .int .i64 0], rfl, Nat.zero_le _, ?_, Nat.le_refl _, by decide, rfl, rfl⟩⟩
    exact ((balloc (Below.refl _ _) _).block w2.heap.size (by simp)).trans (heap_alloc_new w2 _)
  · have := HB2.out.size
    simp
    omega
  · intro g hg
    have e : w2.heap.size = g := by simpa [Value.ownBlock] using hg
    have := HB2.out.size
    simp
    omega

set_option maxRecDepth 100000 in
set_option maxHeartbeats 1000000 in
/-- Create, where the disk has no error. -/
theorem sgCreate_good (w0 w : World) (S : Nat → Prop) (n Bd : Nat) (d : Dk.St) (base every : Int) (p : Nat → Addr) (h : SessS S w0 n Bd d w) (hs : SentsG w0 p) (hn : n ≤ 990) (h0 : 0 ≤ base ∧ base ≤ 1099511627776) (h1 : 1 ≤ every ∧ every ≤ 1048576) (ht : PowTab w0)
    (d1 d2 d3 : Nat → Dk.St) (hc : ∀ x, d.create (Nm.seg base) x = (none, d1 x)) (hy : ∀ x, (d1 x).sync (Nm.seg base) = (none, d2 x)) (hd : ∀ x, (d2 x).syncDir = (none, d3 x)) :
    Calls Tryz.prog 35 #[.pointer (some ⟨Bd, 0, none⟩), .int .i64 base, .int .i64 every] w fun e w' => ∃ X x S' T', w.heap.size ≤ x ∧ e = .returned (.tuple #[.pointer (some ⟨X, 0, none⟩), .nilIface]) ∧ SgW w0 S' T' (n + 3) Bd (d3 x) X (Sg.begin (Nm.seg base) base every) w' ∧ Chg S w w' ∧ (∀ k, (S' k ∨ T' k) → Up S w w' k) := by
  have HB := hide (sgBegin_any Bd base every w h0 h1 (ht.below h.below))
  have HH := hide h
  have HS := hide hs
  have HSD := hide hs.d
  have HLN : Hid ((Nm.seg base).length ≤ 1000) := hide (by rw [seg_name h0]; omega)
  have HOK := hide (Sg.begin_ok (Nm.seg base) h0 h1)
  have HFL : Hid ((Sg.begin (Nm.seg base) base every).file = Nm.seg base) := hide rfl
  clear h hs ht
  generalize Sg.begin (Nm.seg base) base every = s0 at *
  generalize Nm.seg base = f at *
  have HC := hide (fun (W : World) (hw : Below w.heap.size w W) => (HH.out.grow hw).create p HSD.out (by omega) f HLN.out W.heap.size rfl)
  have HY := hide (fun (W : World) (S' : Nat → Prop) (dx : Dk.St) (hW : SessS S' w0 (n + 1) Bd dx W) => hW.sync p HSD.out (by omega) f HLN.out)
  have HD := hide (fun (W : World) (S' : Nat → Prop) (dx : Dk.St) (hW : SessS S' w0 (n + 2) Bd dx W) => hW.syncDir p HSD.out (by omega))
  generalize hfe : encStr f = fv at *
  go_enter Tryz.func35, Tryz.ntmps35
  go_wp2_with (first
    | (go_at_call 76; refine HB.out.mono ?_; rintro e w1 ⟨X, rfl, hsg, hb1⟩; have HB1 := hide hb1; obtain ⟨v1, hl1⟩ := hsg; have HL1 := hide hl1; have c1 : w1.cell? ⟨X, 1, none⟩ = some fv := (by rw [← hfe, ← HFL.out]; exact box_cell hl1.box 1); clear hb1 hl1)
    | (go_at_call 43; refine (HC.out _ HB1.out).mono ?_; rintro e w2 ⟨he, hd2, hc2⟩; rw [hc] at he hd2; obtain rfl := he; have HD2 := hide hd2; have HC2 := hide hc2; have HL2 := hide (HL1.out.same fun k hk hl => hc2.block k hl (fun hS => by have := (HH.out.lo k hS).2; omega)); have d1c : w2.cell? ⟨X, 1, none⟩ = some fv := (by rw [← hfe, ← HFL.out]; exact box_cell HL2.out.box 1); clear hd2 hc2; unfold errR)
    | (go_at_call 77; refine (HY.out _ _ _ HD2.out).mono ?_; rintro e w3 ⟨he, hd3, hc3⟩; rw [hy] at he hd3; obtain rfl := he; have HD3 := hide hd3; have HC3 := hide hc3; clear hd3 hc3; unfold errR)
    | (go_at_call 78; refine (HD.out _ _ _ HD3.out).mono ?_; rintro e w4 ⟨he, hd4, hc4⟩; rw [hd] at he hd4; obtain rfl := he; have HD4 := hide hd4; have HC4 := hide hc4; clear hd4 hc4; unfold errR)
    | fail)
  go_ret2
  have z1 := HB1.out.size
  have z2 := HC2.out.size
  have z3 := HC3.out.size
  have z4 := HC4.out.size
  have n1 : ∀ k, (w.heap.size ≤ k ∧ k < w1.heap.size) → ¬ S k := fun k hk hS => by have := (HH.out.lo k hS).2; omega
  have n2 : ∀ k, (w.heap.size ≤ k ∧ k < w1.heap.size) → ¬ Up S w1 w2 k := fun k hk hu => by rcases hu with hu | hu; exact n1 k hk hu; omega
  have n3 : ∀ k, (w.heap.size ≤ k ∧ k < w1.heap.size) → ¬ Up (Up S w1 w2) w2 w3 k := fun k hk hu => by rcases hu with hu | hu; exact n2 k hk hu; omega
  have n4 : ∀ k, (w.heap.size ≤ k ∧ k < w1.heap.size) → ¬ Up (Up (Up S w1 w2) w2 w3) w3 w4 k := fun k hk hu => by rcases hu with hu | hu; exact n3 k hk hu; omega
  have hsb := HH.out.below.size
  refine ⟨X, w1.heap.size, _, _, z1, rfl, ⟨HD4.out, ⟨v1, (HL2.out.same fun k hk hl => HC3.out.block k hl (n2 k hk)).same fun k hk hl => HC4.out.block k hl (n3 k hk)⟩, n4, fun k hk => by omega, HOK.out, by rw [HFL.out]; exact HLN.out⟩, ?_, fun k hk => ?_⟩
  · exact (Chg.of_below HB1.out).then ((HC2.out.up HC3.out).trans HC4.out fun i hi ht => by
      rcases ht with (ht | ht) | ht
      · exact ht
      · omega
      · omega)
  · rcases hk with ((((hk | hk) | hk) | hk) | hk)
    · exact .inl hk
    · exact .inr (by omega)
    · exact .inr (by omega)
    · exact .inr (by omega)
    · exact .inr (by omega)
end Go.Proofs.YtfdppggdgdnnaaaGreatDoor

namespace Go.Proofs.YtfdppggdgdnnaaaGreatDoor
open Go.RowKit Go.Shelf Go.Sort

/-- What the disk's Cut leaves, amid a region. -/
def heldCut (w5 w0 : World) (S : Nat → Prop) (n Bd : Nat) (d : Dk.St) : Held (fun a b : World => Below a.heap.size a b) :=
  ⟨fun v w => v = .nilIface ∧ ∃ wa wb, Below w5.heap.size w5 wa ∧ SessS (Up S wa wb) w0 n Bd d wb ∧ Chg S wa wb ∧ Below wb.heap.size wb w,
   fun _ _ _ ⟨h0, wa, wb, h1, h2, h3, h4⟩ hg => ⟨h0, wa, wb, h1, h2, h3, h4.trans (hg.mono h4.size)⟩⟩
theorem SgPost.opened {w0 w w1 w3 w' : World} {S : Nat → Prop} {n Bd X : Nat} {d : Dk.St} {s : Sg.St} (hb1 : Below w.heap.size w w1) (hb3 : Below w1.heap.size w1 w3) (h : SgPost w0 S (fun k => w.heap.size ≤ k ∧ k < w1.heap.size) n Bd d X s w3 w') :
    ∃ S' T', SgW w0 S' T' n Bd d X s w' ∧ Chg S w w' ∧ ∀ k, (S' k ∨ T' k) → Up S w w' k := by
  obtain ⟨S', T', hW, hC, hU⟩ := h
  have z1 := hb1.size
  have z3 := hb3.size
  have zc := hC.size
  refine ⟨S', T', hW, ((Chg.of_below (hb1.trans (hb3.mono z1))).trans hC fun i hi ht => ?_), fun k hk => ?_⟩
  · rcases ht with ht | ht
    · exact ht
    · omega
  · rcases hU k hk with (h | h) | h
    · exact .inl h
    · exact .inr (by omega)
    · exact .inr (by omega)
set_option maxRecDepth 100000 in
set_option maxHeartbeats 2000000 in
theorem sgOpen_good (w0 w : World) (S : Nat → Prop) (n Bd : Nat) (d : Dk.St) (base every : Int) (p : Nat → Addr) (h : SessS S w0 n Bd d w) (hs : SentsG w0 p) (hn : n ≤ 990) (h0 : 0 ≤ base ∧ base ≤ 1099511627776) (h1 : 1 ≤ every ∧ every ≤ 1048576) (ht : Tabs w0) (hpt : PowTab w0)
    (raw : List UInt8) (s1 : Sg.St) (pos : Int) (d2 d3 : Dk.St) (hf : (d.find (Nm.seg base)).1 = none) (hlen : d.lenOf (Nm.seg base) = (raw.length : Int)) (hrd : d.readOf (Nm.seg base) 0 raw.length = (none, raw)) (hl : raw.length ≤ 80000)
    (hs1 : Sg.take raw (Sg.begin (Nm.seg base) base every) = s1) (hp : (Sg.last s1.edges).pos = pos) (hp0 : 0 ≤ pos ∧ pos ≤ raw.length) (hc : (if pos < raw.length then d.cut (Nm.seg base) pos else (none, d)) = (none, d2)) (hy : d2.sync (Nm.seg base) = (none, d3)) :
    Calls Tryz.prog 40 #[.pointer (some ⟨Bd, 0, none⟩), .int .i64 base, .int .i64 every] w fun e w' => ∃ X S' T', e = .returned (.tuple #[.pointer (some ⟨X, 0, none⟩), .int .i64 ((raw.length : Int) - pos), .nilIface]) ∧ SgW w0 S' T' (n + 2) Bd d3 X { s1 with synced := pos } w' ∧ Chg S w w' ∧ (∀ k, (S' k ∨ T' k) → Up S w w' k) := by
  have HB := hide (sgBegin_any Bd base every w h0 h1 (hpt.below h.below))
  have HH := hide h
  have HS := hide hs
  have HT := hide ht
  have HSD := hide hs.d
  have HLN : Hid ((Nm.seg base).length ≤ 1000) := hide (by rw [seg_name h0]; omega)
  have HOK := hide (Sg.begin_ok (Nm.seg base) h0 h1)
  have HFL : Hid ((Sg.begin (Nm.seg base) base every).file = Nm.seg base) := hide rfl
  have HAT : Hid ((Sg.begin (Nm.seg base) base every).at_ = 0 ∧ (Sg.begin (Nm.seg base) base every).edges.length = 1) := hide ⟨rfl, rfl⟩
  clear h hs ht hpt
  generalize Sg.begin (Nm.seg base) base every = s0 at *
  generalize Nm.seg base = f at *
  have HLE := hide (fun (W : World) (hw : Below w.heap.size w W) => (HH.out.grow hw).len p HSD.out f HLN.out)
  have HRD := hide (fun (W : World) (hw : Below w.heap.size w W) => (HH.out.grow hw).read p HSD.out (by omega) f HLN.out 0 raw.length (by omega))
  rw [hlen, hf] at HLE
  rw [hrd] at HRD
  simp only at HRD
  have HTK := hide (fun (W : World) (T : Nat → Prop) (X : Nat) (A : Option Addr) (cap : Nat) (h1 : SegAt W X Bd s0 T) (h2 : Below w0.heap.size w0 W) (h3 : ∀ k, T k → w0.heap.size ≤ k ∧ k < W.heap.size) (h4 : Arg W A cap raw) (h5 : ∀ x o, A = some ⟨x, o, none⟩ → ¬ T x) =>
    sgTake_any w0 W T Bd X s0 p A cap raw.length raw h1 HOK.out h2 h3 HS.out HT.out rfl hl h4 h5 (by rw [HAT.out.1]; omega) (by rw [HAT.out.1, HAT.out.2]; omega))
  rw [hs1] at HTK
  have HHC := hide hc
  have HHY := hide hy
  have HPP := hide hp
  clear hf hlen hrd hs1 hc hy hp
  generalize hfe : encStr f = fv at *
  generalize hrl : raw.length = m at *
  have hwm : IntKind.i64.wrap ((m : Int) - pos) = (m : Int) - pos := by rw [IntKind.wrap_i64]; omega
  by_cases hcut : pos < (m : Int)
  · have dc : decide (pos < (m : Int)) = true := decide_eq_true hcut
    rw [if_pos hcut] at HHC
    go_enter Tryz.func40, Tryz.ntmps40
    go_upto_region 12 with (first
      | (go_at_call 76; refine HB.out.mono ?_; rintro e w1 ⟨X, rfl, hsg, hb1⟩; have HB1 := hide hb1; obtain ⟨v1, hl1⟩ := hsg; have HL1 := hide hl1; have c1 : w1.cell? ⟨X, 1, none⟩ = some fv := (by rw [← hfe, ← HFL.out]; exact box_cell hl1.box 1); clear hb1 hl1)
      | (go_at_call 39; refine (HLE.out _ HB1.out).mono ?_; rintro e w2 ⟨rfl, q2, hq2⟩; have HB2 : Hid (Below w1.heap.size w1 w2) := hide (hq2 ▸ below_drewN (Below.refl _ _) q2); have d1c := (HB2.out.cell (p := ⟨X, 1, none⟩) HL1.out.lt).trans c1; clear hq2; unfold errR)
      | (go_at_call 87; refine (HRD.out _ (HB1.out.trans (HB2.out.mono HB1.out.size))).mono ?_; rintro e w3 ⟨v3, rfl, ho3, hb3⟩; have HB3 := hide (HB2.out.trans (hb3.mono HB2.out.size)); have hfar := ho3.lt; obtain ⟨A3, c3, rfl, ha3⟩ := ho3.arg; have HA3 := hide ha3; have HFAR : Hid (∀ x o, A3 = some ⟨x, o, none⟩ → w2.heap.size ≤ x) := hide (fun x o e => (hfar x (by rw [e]; rfl)).1); clear hb3 ho3 ha3 hfar; have HW3 : Hid (SgW w0 S (fun k => w.heap.size ≤ k ∧ k < w1.heap.size) n Bd d X s0 w3) := hide ⟨HH.out.grow (HB1.out.trans (HB3.out.mono HB1.out.size)), ⟨v1, HL1.out.below HB3.out⟩, fun k hk hS => (by have := (HH.out.lo k hS).2; omega), fun k hk => (by have := HH.out.below.size; have := HB3.out.size; omega), HOK.out, (by rw [HFL.out]; exact HLN.out)⟩; unfold errR)
      | (go_at_call 88; refine (HTK.out w3 (fun k => w.heap.size ≤ k ∧ k < w1.heap.size) X A3 c3 HW3.out.seg HW3.out.below HW3.out.lo HA3.out (fun x o e hT => by have := HFAR.out x o e; have := HB2.out.size; omega)).mono ?_; rintro e w4 ⟨rfl, hs4, hc4, hok4, hfl4⟩; have HP4 := hide (SgPost.of_seg HW3.out hs4 hc4 hok4 hfl4); obtain ⟨S4, T4, h4, hc4', hu4⟩ := HP4.out; have H4 := hide h4; have HC4 := hide (And.intro hc4' hu4); have HFL4 : Hid (s1.file = f) := hide (hfl4.trans HFL.out); clear hs4 hc4 hok4 hfl4 h4 hc4' hu4)
      | (go_at_call 24; refine (sgSize_any X Bd s1 T4 w4 H4.out.seg H4.out.ok).mono ?_; rintro e w5 ⟨rfl, hb5⟩; have HB5 := hide hb5; have c5 : w5.cell? ⟨X, 1, none⟩ = some fv := (by obtain ⟨v5, hl5⟩ := H4.out.seg.below hb5; rw [← hfe, ← HFL4.out]; exact box_cell hl5.box 1); clear hb5; rw [HPP.out])
      | fail)
    obtain ⟨v4, hl4⟩ := H4.out.seg
    have hX5 : X < w5.heap.size := Nat.lt_of_lt_of_le hl4.lt HB5.out.size
    have hnSX : ¬ S4 X := H4.out.apart X hl4.mX
    have HSZ := hide (fun (W : World) (hw : Below w4.heap.size w4 W) => sgSize_any X Bd s1 T4 W (H4.out.seg.below hw) H4.out.ok)
    rw [HPP.out] at HSZ
    have HCU := hide (fun (W : World) (hw : Below w4.heap.size w4 W) => (H4.out.disk.grow hw).cut p HSD.out (by omega) f HLN.out pos)
    rw [HHC.out, hfe] at HCU
    simp only at HCU
    clear hl4
    refine wp_region_app (G0 := fun a b : World => Below a.heap.size a b) (G := fun a b : World => Chg S4 a b) ⟨fun w => Below.refl _ w, fun h k => h.trans (k.mono h.size)⟩ ⟨fun w => Chg.refl _ w, fun h k => h.then k⟩ (fun a b h => Chg.of_below h) [57, 58, 59, 60, 61, 62, 63, 64] 7 64 [0, 4, 6] (fun d => match d with
      | 57 => .is (.pointer (some ⟨Bd, 0, none⟩)) | 58 => .is (.pointer (some ⟨X, 0, none⟩)) | 59 => .is (.pointer (some ⟨X, 0, none⟩)) | 60 => .is (.pointer (some ⟨X, 1, none⟩)) | 61 => .is fv | 62 => .is (.pointer (some ⟨X, 0, none⟩)) | 63 => .is (.int .i64 pos) | _ => .any) (heldCut w5 w0 S4 (n + 1) Bd d2) _ (by kernel_rfl) (by kernel_rfl) rfl (by kernel_rfl) ?_ ?_
    · simp only [List.size_toArray, List.length_cons, List.length_nil, List.take_succ_cons, List.take_zero, StepsA]
      refine ⟨?_, ?_, ?_, ?_, ?_, ?_, ?_, ?_, trivial⟩
      all_goals first | rw [if_pos (by decide)] | (rw [if_neg (by decide)]; first | rw [if_pos (by decide)] | rw [if_neg (by decide)])
      all_goals
        intro ev w6 hb hev hd
        have ev0 : ev (.tmp 0) = .pointer (some ⟨Bd, 0, none⟩) := hev _ (by simp)
        have ev9 : ev (.tmp 9) = .pointer (some ⟨X, 0, none⟩) := hev _ (by simp)
        have evf : ∀ f, ev (.func f) = .func (.func f) #[] #[] := fun f => hev _ (by simp)
        have evc : ∀ c, ev (.const c) = c := fun c => hev _ (by simp)
        have k1 : w6.cell? ⟨X, 1, none⟩ = some fv := by first | exact Chg.cell hb c5 hnSX | exact (hb.cell (p := ⟨X, 1, none⟩) hX5).trans c5
        have HB6 := hide hb
        clear hev hb c5 c1 d1c
        simp [DepsD, Dj, Held.is] at hd
        simp [OpRuns, execOp, go_sem, Dj, Held.is, Below.refl, *]
      · exact HSZ.out w6 (HB5.out.trans (((Below.refl w5.heap.size w5).drew.trans HB6.out).mono HB5.out.size))
      · exact (HCU.out w6 (HB5.out.trans (((Below.refl w5.heap.size w5).drew.trans HB6.out).mono HB5.out.size))).mono fun e w'' ⟨he, hd, hc⟩ => ⟨.nilIface, he, hc, rfl, w6, w'', (Below.refl w5.heap.size w5).drew.trans HB6.out, hd, hc, Below.refl _ _⟩
    · intro f' w9 hb hf
      have hj := hf 64 (by simp)
      unfold Dj at hj
      rw [if_pos rfl] at hj
      obtain ⟨e64, wa, wb, h1, h2, h3, h4⟩ := hj
      have HBA := hide (HB5.out.trans (h1.mono HB5.out.size))
      obtain ⟨S9, T9, h9, hc9, hu9⟩ := SgPost.grow ⟨_, _, (H4.out.grow HBA.out).toldP h2 h3⟩ h4
      have H9 := hide h9
      have HC9 := hide (And.intro hc9 hu9)
      clear hb hf h1 h2 h3 h4 h9 hc9 hu9 c1 d1c c5
      simp only [puts, Act.put, List.setIfInBounds_toArray, List.set_cons_succ, List.set_cons_zero]
      rw [e64]
      clear e64
      generalize f' 57 = z57
      generalize f' 58 = z58
      generalize f' 59 = z59
      generalize f' 60 = z60
      generalize f' 61 = z61
      generalize f' 62 = z62
      generalize f' 63 = z63
      clear f'
      go_wp2_with (first
        | (go_at_call 24; refine (sgSize_any X Bd _ T6 w6 H6.out.seg H6.out.ok).mono ?_; rintro e w7 ⟨rfl, hb7⟩; have HB7 := hide hb7; clear hb7; rw [HPP.out])
        | (go_at_call 36; refine (sgSync_any w0 w9 S9 T9 (n + 1) Bd X d2 s1 p H9.out HS.out (by omega)).mono ?_; rintro e w6 ⟨rfl, hp6⟩; rw [show sgSync d2 s1 = (none, d3, { s1 with synced := pos }) by unfold sgSync; rw [HFL4.out, HHY.out, HPP.out]; rfl] at hp6 ⊢; obtain ⟨S6, T6, h6, hc6, hu6⟩ := hp6; have H6 := hide h6; have HC6 := hide (And.intro hc6 hu6); clear h6 hc6 hu6; unfold errR)
        | fail)
      go_ret3
      have hP := SgPost.trans ⟨H4.out, HC4.out.1, HC4.out.2⟩ (SgPost.ahead HBA.out (SgPost.trans ⟨H9.out, HC9.out.1, HC9.out.2⟩ (SgPost.grow ⟨S6, T6, H6.out, HC6.out.1, HC6.out.2⟩ HB7.out)))
      obtain ⟨S', T', a, b, c⟩ := hP.opened HB1.out HB3.out
      exact ⟨X, S', T', rfl, a.mono (by omega), b, c⟩
  · have dc : decide (pos < (m : Int)) = false := decide_eq_false hcut
    obtain rfl : d2 = d := by
      have h := HHC.out
      rw [if_neg hcut] at h
      injection h with _ h
      exact h.symm
    go_enter Tryz.func40, Tryz.ntmps40
    go_wp2_with (first
      | (go_at_call 76; refine HB.out.mono ?_; rintro e w1 ⟨X, rfl, hsg, hb1⟩; have HB1 := hide hb1; obtain ⟨v1, hl1⟩ := hsg; have HL1 := hide hl1; have c1 : w1.cell? ⟨X, 1, none⟩ = some fv := (by rw [← hfe, ← HFL.out]; exact box_cell hl1.box 1); clear hb1 hl1)
      | (go_at_call 39; refine (HLE.out _ HB1.out).mono ?_; rintro e w2 ⟨rfl, q2, hq2⟩; have HB2 : Hid (Below w1.heap.size w1 w2) := hide (hq2 ▸ below_drewN (Below.refl _ _) q2); have d1c := (HB2.out.cell (p := ⟨X, 1, none⟩) HL1.out.lt).trans c1; clear hq2; unfold errR)
      | (go_at_call 87; refine (HRD.out _ (HB1.out.trans (HB2.out.mono HB1.out.size))).mono ?_; rintro e w3 ⟨v3, rfl, ho3, hb3⟩; have HB3 := hide (HB2.out.trans (hb3.mono HB2.out.size)); have hfar := ho3.lt; obtain ⟨A3, c3, rfl, ha3⟩ := ho3.arg; have HA3 := hide ha3; have HFAR : Hid (∀ x o, A3 = some ⟨x, o, none⟩ → w2.heap.size ≤ x) := hide (fun x o e => (hfar x (by rw [e]; rfl)).1); clear hb3 ho3 ha3 hfar; have HW3 : Hid (SgW w0 S (fun k => w.heap.size ≤ k ∧ k < w1.heap.size) n Bd d2 X s0 w3) := hide ⟨HH.out.grow (HB1.out.trans (HB3.out.mono HB1.out.size)), ⟨v1, HL1.out.below HB3.out⟩, fun k hk hS => (by have := (HH.out.lo k hS).2; omega), fun k hk => (by have := HH.out.below.size; have := HB3.out.size; omega), HOK.out, (by rw [HFL.out]; exact HLN.out)⟩; unfold errR)
      | (go_at_call 88; refine (HTK.out w3 (fun k => w.heap.size ≤ k ∧ k < w1.heap.size) X A3 c3 HW3.out.seg HW3.out.below HW3.out.lo HA3.out (fun x o e hT => by have := HFAR.out x o e; have := HB2.out.size; omega)).mono ?_; rintro e w4 ⟨rfl, hs4, hc4, hok4, hfl4⟩; have HP4 := hide (SgPost.of_seg HW3.out hs4 hc4 hok4 hfl4); obtain ⟨S4, T4, h4, hc4', hu4⟩ := HP4.out; have H4 := hide h4; have HC4 := hide (And.intro hc4' hu4); have HFL4 : Hid (s1.file = f) := hide (hfl4.trans HFL.out); clear hs4 hc4 hok4 hfl4 h4 hc4' hu4)
      | (go_at_call 24; refine (sgSize_any X Bd _ T6 w6 H6.out.seg H6.out.ok).mono ?_; rintro e w7 ⟨rfl, hb7⟩; have HB7 := hide hb7; clear hb7; rw [HPP.out])
      | (go_at_call 24; refine (sgSize_any X Bd s1 T4 w4 H4.out.seg H4.out.ok).mono ?_; rintro e w5 ⟨rfl, hb5⟩; have HB5 := hide hb5; clear hb5; rw [HPP.out])
      | (go_at_call 36; refine (sgSync_any w0 w5 S4 T4 n Bd X d2 s1 p (H4.out.grow HB5.out) HS.out (by omega)).mono ?_; rintro e w6 ⟨rfl, hp6⟩; rw [show sgSync d2 s1 = (none, d3, { s1 with synced := pos }) by unfold sgSync; rw [HFL4.out, HHY.out, HPP.out]; rfl] at hp6 ⊢; obtain ⟨S6, T6, h6, hc6, hu6⟩ := hp6; have H6 := hide h6; have HC6 := hide (And.intro hc6 hu6); clear h6 hc6 hu6; unfold errR)
      | fail)
    go_ret3
    have hP := SgPost.trans ⟨H4.out, HC4.out.1, HC4.out.2⟩ (SgPost.ahead HB5.out (SgPost.grow ⟨S6, T6, H6.out, HC6.out.1, HC6.out.2⟩ HB7.out))
    obtain ⟨S', T', a, b, c⟩ := hP.opened HB1.out HB3.out
    exact ⟨X, S', T', rfl, a.mono (by omega), b, c⟩
end Go.Proofs.YtfdppggdgdnnaaaGreatDoor
