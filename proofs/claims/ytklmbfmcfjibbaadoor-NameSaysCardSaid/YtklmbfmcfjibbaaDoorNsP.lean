/-
  Package name: names read back.
-/
import Derived.Test.YtklmbfmcfjibbaaDoorNsO
namespace Go.Proofs.YtklmbfmcfjibbaaDoor
open Go.RowKit Go.Shelf

/-- A variable of the library's that holds an error. -/
def ErrVar (g : Nat) (w : World) : Prop := ∃ ev, w.cell? ⟨g, 0, none⟩ = some ev ∧ (ev = .nilIface ∨ ∃ te pe, ev = .iface te pe)
theorem ErrVar.below {g : Nat} {w w' : World} (h : ErrVar g w) (hb : Below w.heap.size w w') : ErrVar g w' := by
  obtain ⟨ev, h1, h2⟩ := h
  exact ⟨ev, (hb.cell (p := ⟨g, 0, none⟩) (World.block_lt_of_cell? w _ h1)).trans h1, h2⟩
/-- What parsing leans on. -/
structure ParseVars (w : World) : Prop where
  pow : PowTab w
  syn : ErrVar 0 w
  rng : ErrVar 1 w
theorem ParseVars.below {w w' : World} (h : ParseVars w) (hb : Below w.heap.size w w') : ParseVars w' := ⟨h.pow.below hb, h.syn.below hb, h.rng.below hb⟩

theorem parse_ok (s : List UInt8) (v : Int) (w : World) (hs : s.length ≤ 1000000) (h : Lib.parseIntB 64 s = .ok v) :
    Calls Tryd.prog 24 #[str s, .int .i64 10, .int .i64 64] w fun e w' => e = .returned (.tuple #[.int .i64 v, .nilIface]) ∧ Below w.heap.size w w' :=
  (Any.strconv_ParseInt_10_at64_ok lay_parseF ⟨s.toArray⟩ (by show s.toArray.size ≤ _; simp; omega) v h w).mono fun e w' ⟨he, hw⟩ => ⟨he, by
    rcases hw with rfl | ⟨t, rfl⟩
    · exact Below.refl _ _
    · exact Lib.bytesWorld_below w _ t⟩
theorem parse_bad (s : List UInt8) (w : World) (hs : s.length ≤ 1000000) (h : ∀ v, Lib.parseIntB 64 s ≠ .ok v) (hv : ParseVars w) :
    Calls Tryd.prog 24 #[str s, .int .i64 10, .int .i64 64] w fun e w' => (∃ z N, e = .returned (.tuple #[.int .i64 z, .iface 71 (.pointer (some ⟨N, 0, none⟩))])) ∧ Below w.heap.size w w' := by
  obtain ⟨e1, h1, h1'⟩ := hv.syn
  obtain ⟨e2, h2, h2'⟩ := hv.rng
  cases hp : Lib.parseIntB 64 s with
  | ok v => exact absurd hp (h v)
  | range => exact (Any.strconv_ParseInt_10_at64_range lay_parseF ⟨s.toArray⟩ (by show s.toArray.size ≤ _; simp; omega) hp e2 w h2 h2').mono fun e w' ⟨N, he, _, _, hb⟩ => ⟨⟨_, N, he⟩, hb⟩
  | _ => exact (Any.strconv_ParseInt_10_at64_syntax lay_parseF ⟨s.toArray⟩ (by show s.toArray.size ≤ _; simp; omega) hp e1 w h1 h1').mono fun e w' ⟨N, he, _, _, hb⟩ => ⟨⟨_, N, he⟩, hb⟩
theorem atoi_ok (s : List UInt8) (v : Int) (w : World) (hs : s.length ≤ 1000000) (h : Lib.atoiAll s = .ok v) :
    Calls Tryd.prog 29 #[str s] w fun e w' => e = .returned (.tuple #[.int .i64 v, .nilIface]) ∧ Below w.heap.size w w' :=
  (Any.strconv_Atoi_ok lay_atoiF ⟨s.toArray⟩ (by show s.toArray.size ≤ _; simp; omega) v h w).mono fun e w' ⟨he, hw⟩ => ⟨he, by
    rcases hw with rfl | ⟨t, rfl⟩
    · exact Below.refl _ _
    · exact Lib.bytesWorld_below w _ t⟩
theorem atoi_bad (s : List UInt8) (w : World) (hs : s.length ≤ 1000000) (h : ∀ v, Lib.atoiAll s ≠ .ok v) (hv : ParseVars w) :
    Calls Tryd.prog 29 #[str s] w fun e w' => (∃ z N, e = .returned (.tuple #[.int .i64 z, .iface 71 (.pointer (some ⟨N, 0, none⟩))])) ∧ Below w.heap.size w w' := by
  obtain ⟨e1, h1, h1'⟩ := hv.syn
  obtain ⟨e2, h2, h2'⟩ := hv.rng
  cases hp : Lib.atoiAll s with
  | ok v => exact absurd hp (h v)
  | range => exact (Any.strconv_Atoi_range lay_atoiF ⟨s.toArray⟩ (by show s.toArray.size ≤ _; simp; omega) hp e2 w h2 h2').mono fun e w' ⟨N, he, _, _, hb⟩ => ⟨⟨_, N, he⟩, hb⟩
  | _ => exact (Any.strconv_Atoi_syntax lay_atoiF ⟨s.toArray⟩ (by show s.toArray.size ≤ _; simp; omega) hp e1 w h1 h1').mono fun e w' ⟨N, he, _, _, hb⟩ => ⟨⟨_, N, he⟩, hb⟩

theorem err_type : ∃ ms, Tryd.prog.underlying 42 = some (.interface ms) := by
  have h1 : (match Tryd.prog.underlying 42 with | some (.interface _) => true | _ => false) = true := by kernel_rfl
  cases hu : Tryd.prog.underlying 42 with
  | none => rw [hu] at h1; cases h1
  | some u =>
    rw [hu] at h1
    cases u with
    | interface ms => exact ⟨ms, rfl⟩
    | _ => cases h1
theorem neq_err (T : TypeId) (v : Value) (w : World) : (binOp .neq 42 (.iface T v) .nilIface).run Tryd.prog w = .ok (.bool true) w := by
  obtain ⟨ms, h1⟩ := err_type
  have h : ∀ d : Nat, (Op.equalIn (d + 1) 42 (.iface T v) .nilIface).run Tryd.prog w = .ok false w := fun d => by simp [Op.equalIn, run_underlying h1]
  simp only [binOp]
  simp [Op.equal, Op.maxDepth, h 9999]

/-- What a text says of a segment. -/
def baseOf (s : List UInt8) : Int × Bool := if s = Nm.segN (Nm.val 0 (s.drop 4)) ∧ Nm.right (Nm.val 0 (s.drop 4) : Int) then ((Nm.val 0 (s.drop 4) : Int), true) else (0, false)
theorem baseOf_yes (n : Nat) (h : Nm.right (n : Int)) : baseOf (Nm.segN n) = ((n : Int), true) := by
  have e : Nm.val 0 ((Nm.segN n).drop 4) = n := by
    show Nm.val 0 (Nm.dgs 13 n) = n
    exact Nm.val_dgs 13 n (by have := Nm.right_lt h; simpa using this)
  unfold baseOf
  rw [e, if_pos ⟨rfl, h⟩]
theorem baseOf_no (s : List UInt8) (h : ∀ n : Nat, Nm.right (n : Int) → s ≠ Nm.segN n) : baseOf s = (0, false) := by
  unfold baseOf
  rw [if_neg fun h2 => h _ h2.2 h2.1]
theorem trim_seg (n : Nat) : Lib.trimPrefix (Nm.segN n) Nm.log = Nm.dgs 13 n := by
  unfold Lib.trimPrefix Nm.segN
  simp [Nm.log, Lib.hasPrefix]
theorem seg_ne_nil (s : List UInt8) (v : Int) (hs : ∀ n : Nat, Nm.right (n : Int) → s ≠ Nm.segN n) (h0 : s ≠ []) : Nm.seg v ≠ s := by
  unfold Nm.seg
  split
  · rename_i hr
    intro e
    obtain ⟨n, rfl⟩ := Int.eq_ofNat_of_zero_le hr.1
    exact hs n hr (by simpa using e.symm)
  · exact fun e => h0 e.symm

set_option maxRecDepth 100000 in
set_option maxHeartbeats 1000000 in
theorem base_any (s : List UInt8) (w : World) (hl : s.length ≤ 1000) (hv : ParseVars w) :
    Calls Tryd.prog 8 #[str s] w fun e w' => e = .returned (.tuple #[.int .i64 (baseOf s).1, .bool (baseOf s).2]) ∧ Below w.heap.size w w' := by
  have kn := neq_err
  have HTP := Lib.hid (trimPrefix_any s Nm.log w)
  have HV := Lib.hid hv
  by_cases hs : ∃ n : Nat, Nm.right (n : Int) ∧ s = Nm.segN n
  · obtain ⟨n, hr, rfl⟩ := hs
    rw [baseOf_yes n hr]
    rw [trim_seg] at HTP
    have hlt := Nm.right_lt hr
    have hp := (Nm.digits_parse (Nm.dgs 13 n) (Nm.dgs_digit 13 n) (fun e => by have := Nm.dgs_length 13 n; rw [e] at this; simp at this) (by rw [Nm.dgs_length]; omega)).1
    rw [Nm.val_dgs 13 n (by simpa using hlt)] at hp
    have HP := Lib.hid (parse_ok (Nm.dgs 13 n) (n : Int) w (by rw [Nm.dgs_length]; omega) hp)
    have hsg : Nm.seg (n : Int) = Nm.segN n := by unfold Nm.seg; rw [if_pos hr]; rfl
    have HSG : Hid (∀ W, PowTab W → Calls Tryd.prog 14 #[.int .i64 (n : Int)] W fun e w' => e = .returned (str (Nm.segN n)) ∧ Below W.heap.size W w') := Lib.hid fun W hW => by
      have := segment_any (n : Int) W hW
      rwa [hsg] at this
    generalize Nm.dgs 13 n = d at *
    generalize Nm.segN n = s at *
    clear hr hlt hp hv hsg
    go_enter Tryd.func8, Tryd.ntmps8
    go_wp2_with (first
      | (go_at_call 25; refine HTP.out.mono ?_; rintro e w1 ⟨rfl, rfl⟩)
      | (go_at_call 24; refine HP.out.mono ?_; rintro e w2 ⟨rfl, hb2⟩; have HB2 := Lib.hid hb2; clear hb2)
      | (go_at_call 14; refine (HSG.out w2 (HV.out.pow.below HB2.out)).mono ?_; rintro e w3 ⟨rfl, hb3⟩; have HB3 := Lib.hid (HB2.out.trans (hb3.mono HB2.out.size)); clear hb3)
      | fail)
    go_ret2
    exact ⟨rfl, HB3.out⟩
  · have hno : ∀ n : Nat, Nm.right (n : Int) → s ≠ Nm.segN n := fun n h1 h2 => hs ⟨n, h1, h2⟩
    rw [baseOf_no s hno]
    have htl : (Lib.trimPrefix s Nm.log).length ≤ 1000 := Nat.le_trans (by unfold Lib.trimPrefix; split <;> simp) hl
    have h0 : s = [] → Lib.trimPrefix s Nm.log = [] := fun e => by subst e; rfl
    generalize Lib.trimPrefix s Nm.log = d at *
    by_cases hp : ∃ v, Lib.parseIntB 64 d = .ok v
    · obtain ⟨v, hp⟩ := hp
      have hs0 : s ≠ [] := fun e => by rw [h0 e] at hp; cases hp
      have HP := Lib.hid (parse_ok d v w (by omega) hp)
      have hne : (Nm.seg v == s) = false := by
        rw [beq_eq_false_iff_ne]
        exact seg_ne_nil s v hno hs0
      have HSG : Hid (∀ W, PowTab W → Calls Tryd.prog 14 #[.int .i64 v] W fun e w' => e = .returned (str (Nm.seg v)) ∧ Below W.heap.size W w') := Lib.hid fun W hW => segment_any v W hW
      generalize Nm.seg v = r at *
      clear hs hno hp hv h0 hs0 htl
      go_enter Tryd.func8, Tryd.ntmps8
      go_wp2_with (first
        | (go_at_call 25; refine HTP.out.mono ?_; rintro e w1 ⟨rfl, rfl⟩)
        | (go_at_call 24; refine HP.out.mono ?_; rintro e w2 ⟨rfl, hb2⟩; have HB2 := Lib.hid hb2; clear hb2)
        | (go_at_call 14; refine (HSG.out w2 (HV.out.pow.below HB2.out)).mono ?_; rintro e w3 ⟨rfl, hb3⟩; have HB3 := Lib.hid (HB2.out.trans (hb3.mono HB2.out.size)); clear hb3)
        | fail)
      go_ret2
      exact ⟨rfl, HB3.out⟩
    · have HP := Lib.hid (parse_bad d w (by omega) (fun v e => hp ⟨v, e⟩) hv)
      clear hs hno hp hv h0 htl
      go_enter Tryd.func8, Tryd.ntmps8
      go_wp2_with (first
        | (go_at_call 25; refine HTP.out.mono ?_; rintro e w1 ⟨rfl, rfl⟩)
        | (go_at_call 24; refine HP.out.mono ?_; rintro e w2 ⟨⟨z, N, rfl⟩, hb2⟩; have HB2 := Lib.hid hb2; clear hb2)
        | fail)
      go_ret2
      exact ⟨rfl, HB2.out⟩
end Go.Proofs.YtklmbfmcfjibbaaDoor
