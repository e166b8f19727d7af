/-
  Package seg: what a segment made of batches comes to.
  Package seg: the bytes and the edges of a segment made of batches.
  Package seg: the order of the edges; which of them a test counts; when a read finds what it is to be told.
-/
import Derived.Test.YtfdppggdgdnnaaaGreatDoorZ16
import Derived.Test.YtfdppggdgdnnaaaGreatDoorZ13
import Derived.Test.YtfdppggdgdnnaaaGreatDoorZ11
import Derived.Test.YtfdppggdgdnnaaaGreatDoorZ15
namespace Go.Proofs.YtfdppggdgdnnaaaGreatDoor.Sg

/-- The segment with these batches behind it. -/
def adds (s : St) (bs : List Rc.Bat) : St := bs.foldl (fun s b => s.add b (Rc.bytes b).length) s
theorem adds_nil (s : St) : adds s [] = s := rfl
theorem adds_cons (s : St) (b : Rc.Bat) (bs : List Rc.Bat) : adds s (b :: bs) = adds (s.add b (Rc.bytes b).length) bs := rfl
theorem adds_append (s : St) (bs cs : List Rc.Bat) : adds s (bs ++ cs) = adds (adds s bs) cs := by unfold adds; rw [List.foldl_append]
theorem adds_file (bs : List Rc.Bat) : ∀ s : St, (adds s bs).file = s.file ∧ (adds s bs).every = s.every ∧ (adds s bs).synced = s.synced := by
  induction bs with
  | nil => exact fun s => ⟨rfl, rfl, rfl⟩
  | cons b bs ih => exact fun s => ih (s.add b (Rc.bytes b).length)
theorem add_len (s : St) (b : Rc.Bat) (n : Nat) : (s.add b n).edges.length = s.edges.length + 1 := by simp [St.add]
theorem adds_len (bs : List Rc.Bat) : ∀ s : St, (adds s bs).edges.length = s.edges.length + bs.length := by
  induction bs with
  | nil => exact fun s => rfl
  | cons b bs ih => exact fun s => by rw [adds_cons, ih, add_len, List.length_cons]; omega
theorem add_last (s : St) (b : Rc.Bat) (n : Nat) : last (s.add b n).edges = step (last s.edges) b n := last_snoc _ _
theorem adds_pos (bs : List Rc.Bat) : ∀ s : St, (last (adds s bs).edges).pos = (last s.edges).pos + ((bs.flatMap Rc.bytes).length : Int) := by
  induction bs with
  | nil => exact fun s => by simp [adds]
  | cons b bs ih => exact fun s => by rw [adds_cons, ih, add_last, List.flatMap_cons, List.length_append]; simp only [step]; omega
theorem add_ed (s : St) (b : Rc.Bat) (n k : Nat) (hk : k < s.edges.length) : ed (s.add b n).edges k = ed s.edges k := by
  unfold ed St.add
  simp only [List.getD_eq_getElem?_getD]
  rw [List.getElem?_append_left hk]
theorem adds_ed (bs : List Rc.Bat) : ∀ (s : St) (k : Nat), k < s.edges.length → ed (adds s bs).edges k = ed s.edges k := by
  induction bs with
  | nil => exact fun s k _ => rfl
  | cons b bs ih => exact fun s k hk => by rw [adds_cons, ih _ k (by rw [add_len]; omega), add_ed s b _ k hk]
/-- An edge is what the batches ahead of it come to. -/
theorem adds_ed_at (s : St) (bs : List Rc.Bat) (k : Nat) (hk : k < bs.length) : ed (adds s bs).edges (s.edges.length + k) = last (adds s (bs.take (k + 1))).edges := by
  have e : bs = bs.take (k + 1) ++ bs.drop (k + 1) := (List.take_append_drop _ _).symm
  have hl : (adds s (bs.take (k + 1))).edges.length = s.edges.length + (k + 1) := by rw [adds_len, List.length_take, Nat.min_eq_left (by omega)]
  conv => lhs; rw [e, adds_append, adds_ed _ _ _ (by omega)]
  unfold last
  rw [hl]
  rfl
/-- Batches that follow each other. -/
def Chain (s : St) : List Rc.Bat → Prop
  | [] => True
  | b :: bs => follows s.edges b = true ∧ Chain (s.add b (Rc.bytes b).length) bs
theorem Chain.append {bs cs : List Rc.Bat} : ∀ {s : St}, Chain s (bs ++ cs) ↔ Chain s bs ∧ Chain (adds s bs) cs := by
  induction bs with
  | nil => exact fun {s} => ⟨fun h => ⟨trivial, h⟩, fun h => h.2⟩
  | cons b bs ih => exact fun {s} => ⟨fun h => ⟨⟨h.1, (ih.1 h.2).1⟩, (ih.1 h.2).2⟩, fun h => ⟨h.1.1, ih.2 ⟨h.1.2, h.2⟩⟩⟩
theorem Ok.adds {bs : List Rc.Bat} : ∀ {s : St}, Ok s → (∀ b ∈ bs, Rc.Good b ∧ (Rc.bytes b).length ≤ 1000000) → s.edges.length + bs.length ≤ 90000 → (last s.edges).pos + ((bs.flatMap Rc.bytes).length : Int) ≤ 900000000 → Ok (adds s bs) := by
  induction bs with
  | nil => exact fun {s} h _ _ _ => h
  | cons b bs ih =>
    intro s h hg hl hp
    rw [List.length_cons] at hl
    rw [List.flatMap_cons, List.length_append] at hp
    obtain ⟨g1, g2⟩ := hg b List.mem_cons_self
    rw [adds_cons]
    exact ih (h.add b _ g1 (by omega) g2 (by omega)) (fun x hx => hg x (List.mem_cons_of_mem _ hx)) (by rw [add_len]; omega) (by rw [add_last]; simp only [step]; omega)
/-- What take makes of the bytes of batches that follow, and of what is behind them. -/
theorem takeGo_adds (l : List UInt8) (bs : List Rc.Bat) : ∀ (s : St) (rest : List UInt8) (f : Nat), 0 ≤ (last s.edges).pos → Chain s bs → (∀ b ∈ bs, Rc.Good b) → l.drop s.at_ = bs.flatMap Rc.bytes ++ rest → takeGo l (bs.length + f) s = takeGo l f (adds s bs) := by
  induction bs with
  | nil => intro s rest f _ _ _ _; rw [List.length_nil, Nat.zero_add]; rfl
  | cons b bs ih =>
    intro s rest f h0 hc hg hd
    have g := hg b List.mem_cons_self
    have hd' : l.drop s.at_ = Rc.bytes b ++ (bs.flatMap Rc.bytes ++ rest) := by rw [hd, List.flatMap_cons, List.append_assoc]
    obtain ⟨r0, -, r2⟩ := Rc.bytes_read b g (bs.flatMap Rc.bytes ++ rest)
    have r3 := Rc.bytes_rsize b g (bs.flatMap Rc.bytes ++ rest)
    have hn : next l s = some (b, (Rc.bytes b).length) := by
      unfold next
      rw [hd', r0, r2, r3, (Rc.body_read b g).1, if_pos ⟨rfl, hc.1⟩]
    rw [List.length_cons, show bs.length + 1 + f = (bs.length + f) + 1 by omega, takeGo, hn]
    have hat := add_at s h0 b (Rc.bytes b).length
    refine ih (s.add b (Rc.bytes b).length) rest f ?_ hc.2 (fun x hx => hg x (List.mem_cons_of_mem _ hx)) ?_
    · rw [add_last]; simp only [step]; omega
    · rw [hat, ← List.drop_drop, hd', List.drop_left]
/-- The whole file read back. -/
theorem take_adds (bs : List Rc.Bat) (s : St) (h0 : (last s.edges).pos = 0) (hc : Chain s bs) (hg : ∀ b ∈ bs, Rc.Good b) (rest : List UInt8) (hr : Rc.rcode rest ≠ 0) : take (bs.flatMap Rc.bytes ++ rest) s = adds s bs := by
  have hat : s.at_ = 0 := by unfold St.at_; rw [h0]; rfl
  have h8 : ∀ l : List Rc.Bat, l.length ≤ (l.flatMap Rc.bytes).length := fun l => by
    induction l with
    | nil => simp
    | cons a rest ih =>
      have : 1 ≤ (Rc.bytes a).length := by have := Rc.bytes_len a; omega
      rw [List.flatMap_cons, List.length_append, List.length_cons]
      omega
  have hb := h8 bs
  obtain ⟨f, hf⟩ : ∃ f, (bs.flatMap Rc.bytes ++ rest).length + 1 - s.at_ = bs.length + (f + 1) := ⟨(bs.flatMap Rc.bytes ++ rest).length - bs.length, by rw [hat, List.length_append]; omega⟩
  unfold take
  rw [hf, takeGo_adds _ bs s rest (f + 1) (by omega) hc hg (by rw [hat, List.drop_zero])]
  have hp := adds_pos bs s
  have hat2 : (adds s bs).at_ = (bs.flatMap Rc.bytes).length := by unfold St.at_; rw [hp, h0]; omega
  have hn : next (bs.flatMap Rc.bytes ++ rest) (adds s bs) = none := by
    unfold next
    rw [hat2, List.drop_left, if_neg (fun h => hr h.1)]
  rw [takeGo, hn]
theorem rcode_nil : Rc.rcode [] ≠ 0 := by unfold Rc.rcode; simp
end Go.Proofs.YtfdppggdgdnnaaaGreatDoor.Sg

namespace Go.Proofs.YtfdppggdgdnnaaaGreatDoor
namespace Sg
theorem allGo_bytes (l : List UInt8) (bs : List Rc.Bat) : ∀ (at_ : Nat) (acc : List Rc.Bat), at_ ≤ l.length → (∀ b ∈ bs, Rc.Good b) → l.drop at_ = bs.flatMap Rc.bytes → Rc.allGo l (l.length - at_) at_ acc = (acc ++ bs, l.length, 0) := by
  induction bs with
  | nil =>
    intro at_ acc hat _ hd
    have h := congrArg List.length hd
    rw [List.length_drop] at h
    simp only [List.flatMap_nil, List.length_nil] at h
    obtain rfl : at_ = l.length := by omega
    rw [Nat.sub_self, List.append_nil]
    rfl
  | cons b bs ih =>
    intro at_ acc hat hg hd
    have g := hg b List.mem_cons_self
    rw [List.flatMap_cons] at hd
    have hl8 := Rc.bytes_len b
    have hlen := congrArg List.length hd
    rw [List.length_drop, List.length_append] at hlen
    obtain ⟨r0, -, r2⟩ := Rc.bytes_read b g (bs.flatMap Rc.bytes)
    have r3 := Rc.bytes_rsize b g (bs.flatMap Rc.bytes)
    rw [show l.length - at_ = (l.length - at_ - 1) + 1 by omega, Rc.allGo, if_pos (by omega), hd, if_pos r0, r2, r3, (Rc.body_read b g).1]
    rw [Rc.allGo_fuel l _ (l.length - (at_ + (Rc.bytes b).length)) _ _ (by omega) (by omega)]
    rw [ih (at_ + (Rc.bytes b).length) (acc ++ [b]) (by omega) (fun x hx => hg x (List.mem_cons_of_mem _ hx)) (by rw [← List.drop_drop, hd, List.drop_left])]
    rw [List.append_assoc]
    rfl
theorem all_bytes (bs : List Rc.Bat) (hg : ∀ b ∈ bs, Rc.Good b) : Rc.all (bs.flatMap Rc.bytes) = (bs, (bs.flatMap Rc.bytes).length, 0) := by
  have h := allGo_bytes (bs.flatMap Rc.bytes) bs 0 [] (Nat.zero_le _) hg (List.drop_zero)
  rw [Nat.sub_zero, List.nil_append] at h
  exact h

/-- An edge of a segment made of batches, by the batches ahead of it. -/
theorem ed_last (s : St) (h1 : s.edges.length = 1) (bs : List Rc.Bat) (k : Nat) (hk : k ≤ bs.length) : ed (adds s bs).edges k = last (adds s (bs.take k)).edges := by
  cases k with
  | zero =>
    rw [adds_ed bs s 0 (by omega), List.take_zero, adds_nil]
    unfold last
    rw [h1]
  | succ k =>
    have h := adds_ed_at s bs k (by omega)
    rw [h1, Nat.add_comm] at h
    exact h
theorem ed_pos (s : St) (h1 : s.edges.length = 1) (h0 : (last s.edges).pos = 0) (bs : List Rc.Bat) (k : Nat) (hk : k ≤ bs.length) : (ed (adds s bs).edges k).pos = (((bs.take k).flatMap Rc.bytes).length : Int) := by
  rw [ed_last s h1 bs k hk, adds_pos, h0]
  omega
theorem ed_next (s : St) (h1 : s.edges.length = 1) (bs : List Rc.Bat) (k : Nat) (hk : k < bs.length) : (ed (adds s bs).edges (k + 1)).off = bs[k].base + bs[k].recs.length := by
  rw [ed_last s h1 bs (k + 1) (by omega), List.take_succ_eq_append_getElem hk, adds_append, adds_cons, adds_nil, add_last]
  rfl
theorem ed_base (s : St) (h1 : s.edges.length = 1) (bs : List Rc.Bat) (hc : Chain s bs) (k : Nat) (hk : k < bs.length) : bs[k].base = (ed (adds s bs).edges k).off := by
  rw [ed_last s h1 bs k (by omega)]
  have e : bs = bs.take k ++ bs.drop k := (List.take_append_drop _ _).symm
  rw [e] at hc
  have h := (Chain.append.1 hc).2
  rw [List.drop_eq_getElem_cons hk] at h
  have hf := h.1
  unfold follows at hf
  simp only [Bool.and_eq_true, decide_eq_true_eq] at hf
  exact hf.1
end Sg
theorem lies_adds (s : Sg.St) (h1 : s.edges.length = 1) (bs : List Rc.Bat) (hc : Sg.Chain s bs) (i j : Nat) (hij : i ≤ j) (hj : j ≤ bs.length) : Lies (Sg.adds s bs) ((bs.drop i).take (j - i)) i j := by
  refine ⟨by rw [List.length_take, List.length_drop]; omega, by rw [Sg.adds_len, h1]; omega, fun k hk => ?_⟩
  rw [List.length_take, List.length_drop] at hk
  have e : ((bs.drop i).take (j - i))[k]'(by rw [List.length_take, List.length_drop]; omega) = bs[i + k] := by simp
  rw [e]
  exact ⟨Sg.ed_base s h1 bs hc (i + k) (by omega), (Sg.ed_next s h1 bs (i + k) (by omega)).symm⟩
/-- What lies in the file between two edges. -/
theorem raw_adds (d : Dk.St) (s : Sg.St) (h1 : s.edges.length = 1) (h0 : (Sg.last s.edges).pos = 0) (bs : List Rc.Bat) (x : Nat) (hf : d.find s.file = (none, some x)) (hb : (d.files x).bytes = bs.flatMap Rc.bytes) (i j : Nat) (hij : i ≤ j) (hj : j ≤ bs.length) :
    sgRaw d (Sg.adds s bs) i j = (none, ((bs.drop i).take (j - i)).flatMap Rc.bytes) := by
  have p1 := Sg.ed_pos s h1 h0 bs i (by omega)
  have p2 := Sg.ed_pos s h1 h0 bs j hj
  have e1 : bs.take j = bs.take i ++ (bs.drop i).take (j - i) := by
    conv => lhs; rw [show j = i + (j - i) by omega, List.take_add]
  have e2 : bs.flatMap Rc.bytes = (bs.take i).flatMap Rc.bytes ++ (((bs.drop i).take (j - i)).flatMap Rc.bytes ++ (bs.drop j).flatMap Rc.bytes) := by
    conv => lhs; rw [← List.take_append_drop j bs, e1, List.flatMap_append, List.flatMap_append, List.append_assoc]
  rw [e1, List.flatMap_append, List.length_append] at p2
  unfold sgRaw
  rw [(Sg.adds_file bs s).1, p1, p2]
  unfold Dk.St.readOf
  rw [hf]
  simp only
  rw [hb]
  have hl := congrArg List.length e2
  rw [List.length_append, List.length_append] at hl
  rw [if_neg (by omega), e2, Int.toNat_natCast, List.drop_left, show ((((bs.take i).flatMap Rc.bytes).length + (((bs.drop i).take (j - i)).flatMap Rc.bytes).length : Nat) : Int) - (((bs.take i).flatMap Rc.bytes).length : Int) = ((((bs.drop i).take (j - i)).flatMap Rc.bytes).length : Int) by omega, Int.toNat_natCast, List.take_left]
end Go.Proofs.YtfdppggdgdnnaaaGreatDoor

namespace Go.Proofs.YtfdppggdgdnnaaaGreatDoor
namespace Sg
theorem flat_take_le (bs : List Rc.Bat) (a b : Nat) (h : a ≤ b) : ((bs.take a).flatMap Rc.bytes).length ≤ ((bs.take b).flatMap Rc.bytes).length := by
  have e : bs.take b = bs.take a ++ (bs.drop a).take (b - a) := by
    conv => lhs; rw [show b = a + (b - a) by omega, List.take_add]
  rw [e, List.flatMap_append, List.length_append]
  omega
theorem pos_mono (s : St) (h1 : s.edges.length = 1) (h0 : (last s.edges).pos = 0) (bs : List Rc.Bat) (a b : Nat) (hab : a ≤ b) (hb : b < (adds s bs).edges.length) : (ed (adds s bs).edges a).pos ≤ (ed (adds s bs).edges b).pos := by
  rw [adds_len, h1] at hb
  rw [ed_pos s h1 h0 bs a (by omega), ed_pos s h1 h0 bs b (by omega)]
  have := flat_take_le bs a b hab
  omega
theorem off_mono (s : St) (h1 : s.edges.length = 1) (bs : List Rc.Bat) (hc : Chain s bs) (a b : Nat) (hab : a ≤ b) (hb : b < (adds s bs).edges.length) : (ed (adds s bs).edges a).off ≤ (ed (adds s bs).edges b).off := by
  rw [adds_len, h1] at hb
  obtain ⟨n, rfl⟩ : ∃ n, b = a + n := ⟨b - a, by omega⟩
  clear hab
  induction n with
  | zero => exact Int.le_refl _
  | succ n ih =>
    have h := ih (by omega)
    have e1 := ed_base s h1 bs hc (a + n) (by omega)
    have e2 := ed_next s h1 bs (a + n) (by omega)
    rw [show a + (n + 1) = a + n + 1 by omega, e2]
    omega
/-- A test that holds from the k-th edge on. -/
theorem cnt_eq (l : List Edge) (P : Edge → Bool) (k : Nat) (hk : k ≤ l.length) (h1 : ∀ i, i < k → P (ed l i) = false) (h2 : ∀ i, k ≤ i → i < l.length → P (ed l i) = true) : cnt l P = k := by
  unfold cnt
  have e : List.range l.length = List.range k ++ (List.range (l.length - k)).map (k + ·) := by
    conv => lhs; rw [show l.length = k + (l.length - k) by omega, List.range_add]
  rw [e, List.countP_append]
  have a1 : (List.range k).countP (fun i => !P (ed l i)) = k := by
    have h := List.countP_eq_length (p := fun i => !P (ed l i)) (l := List.range k)
    rw [List.length_range] at h
    exact h.2 fun i hi => by rw [h1 i (List.mem_range.1 hi)]; rfl
  have a2 : ((List.range (l.length - k)).map (k + ·)).countP (fun i => !P (ed l i)) = 0 := by
    refine List.countP_eq_zero.2 fun i hi => ?_
    obtain ⟨j, hj, rfl⟩ := List.mem_map.1 hi
    have := List.mem_range.1 hj
    rw [h2 (k + j) (by omega) (by omega)]
    simp
  rw [a1, a2, Nat.add_zero]
end Sg

/-- When Read finds what it is to be told: the batch that has the offset, and how far the bytes go. -/
theorem read_adds (d : Dk.St) (s : Sg.St) (h1 : s.edges.length = 1) (h0 : (Sg.last s.edges).pos = 0) (bs : List Rc.Bat) (hc : Sg.Chain s bs) (hg : ∀ b ∈ bs, Rc.Good b) (hl : (bs.flatMap Rc.bytes).length ≤ 1000000) (x : Nat) (hf : d.find s.file = (none, some x)) (hb : (d.files x).bytes = bs.flatMap Rc.bytes)
    (o most : Int) (k q f fin : Nat) (hk : k < bs.length) (hq : o = bs[k].base + q) (hql : q < bs[k].recs.length) (hbad : Rc.bad (cutB bs[k] o q) = 0) (hsz : (Rc.bytes (cutB bs[k] o q)).length ≤ 1000000)
    (hf1 : Sg.cnt (Sg.adds s bs).edges (fun e => decide (most < e.pos - ((Sg.ed (Sg.adds s bs).edges (k + 1)).pos - (Rc.bytes (cutB bs[k] o q)).length))) = f) (hfin : (fin : Int) = max ((k : Int) + 1) ((f : Int) - 1)) (hfl : fin ≤ bs.length) :
    ReadH d (Sg.adds s bs) o most k q f fin bs[k] ((bs.drop (k + 1)).take (fin - (k + 1))) := by
  have hlen : (Sg.adds s bs).edges.length = bs.length + 1 := by rw [Sg.adds_len, h1]; omega
  have hom := Sg.off_mono s h1 bs hc
  have e0 := Sg.ed_base s h1 bs hc k hk
  have e1 := Sg.ed_next s h1 bs k hk
  have hlast : (Sg.last (Sg.adds s bs).edges).off = (Sg.ed (Sg.adds s bs).edges bs.length).off := by unfold Sg.last; rw [hlen]; rfl
  have m0 := hom 0 k (Nat.zero_le _) (by omega)
  have m1 := hom (k + 1) bs.length (by omega) (by omega)
  have hk1 : k + 1 ≤ fin := by omega
  have hone : (bs.drop k).take (k + 1 - k) = [bs[k]] := by
    rw [show k + 1 - k = 1 by omega, List.drop_eq_getElem_cons hk]
    rfl
  have hsub : ∀ i j, (((bs.drop i).take (j - i)).flatMap Rc.bytes).length ≤ (bs.flatMap Rc.bytes).length := fun i j => by
    have e : bs = bs.take i ++ ((bs.drop i).take (j - i) ++ (bs.drop i).drop (j - i)) := by rw [List.take_append_drop, List.take_append_drop]
    conv => rhs; rw [e, List.flatMap_append, List.flatMap_append, List.length_append, List.length_append]
    omega
  have hmem : ∀ i j, ∀ b ∈ (bs.drop i).take (j - i), Rc.Good b := fun i j b hb => hg b (List.mem_of_mem_drop (List.mem_of_mem_take hb))
  refine ⟨by omega, by rw [hlast]; omega, hom, Sg.pos_mono s h1 h0 bs, ?_, ?_, ?_, hq, hql, hbad, hsz, hf1, hfin, ?_, ?_⟩
  · refine Sg.cnt_eq _ _ (k + 1) (by omega) (fun i hi => decide_eq_false ?_) (fun i hi hil => decide_eq_true ?_)
    · have := hom i k (by omega) (by omega)
      omega
    · have := hom (k + 1) i hi hil
      omega
  · refine ⟨_, raw_adds d s h1 h0 bs x hf hb k (k + 1) (by omega) (by omega), ?_, by have := hsub k (k + 1); omega⟩
    rw [Sg.all_bytes _ (hmem k (k + 1)), hone]
  · have h := lies_adds s h1 bs hc k (k + 1) (by omega) (by omega)
    rwa [hone] at h
  · exact ⟨_, raw_adds d s h1 h0 bs x hf hb (k + 1) fin hk1 hfl, Sg.all_bytes _ (hmem (k + 1) fin), by have := hsub (k + 1) fin; omega⟩
  · exact lies_adds s h1 bs hc (k + 1) fin hk1 hfl
end Go.Proofs.YtfdppggdgdnnaaaGreatDoor
