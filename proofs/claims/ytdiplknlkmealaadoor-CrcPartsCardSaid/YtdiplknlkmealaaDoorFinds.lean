/-
  The walk through CrcFinds: a burst, or three bits, turned in what was sealed are told.
-/
import Derived.Test.YtdiplknlkmealaaDoorBytes6
import Derived.Test.YtdiplknlkmealaaDoorRef3
import Derived.Test.YtdiplknlkmealaaDoorBurst
import Derived.Deep.CutBlock
import Derived.Deep.DeepCutAuto
namespace Go.Proofs.YtdiplknlkmealaaDoor
open Go.RowKit Crc
attribute [local go_sem] BtoNat x32 n32 x8 and8_15 mod256 wrap8 xs32 Bd16toNat mul2

/-- Bytes at the start of a block of the call's own, free to write. -/
structure Mem (w : World) (base g c : Nat) (l : List UInt8) : Prop where
  base : base ≤ g
  lt : g < w.heap.size
  arg : Arg w (some ⟨g, 0, none⟩) c l
  free : ∀ k, w.frozen? ⟨g, k, none⟩ = false

theorem Mem.of {w : World} {base : Nat} {v : Value} {l : List UInt8} (h : Own w base v l) (hl : 0 < l.length) : ∃ g c, v = .slice (some ⟨g, 0, none⟩) l.length c ∧ Mem w base g c l := by
  obtain ⟨g, c, hv, h1, h2, h3, h4, _⟩ := h.open_ hl
  exact ⟨g, c, hv, h1, h2, h3, h4⟩
theorem Mem.base_le {w : World} {base base' g c : Nat} {l : List UInt8} (h : Mem w base g c l) (hb : base' ≤ base) : Mem w base' g c l := ⟨Nat.le_trans hb h.base, h.lt, h.arg, h.free⟩
theorem Mem.set {w : World} {base g c : Nat} {l : List UInt8} (h : Mem w base g c l) (k : Nat) (x : UInt8) (hk : k < l.length) : Mem (w.setCell ⟨g, k, none⟩ (.int .u8 (B x))) base g c (l.set k x) := by
  have hr := h.arg.reads
  refine ⟨h.base, by simpa [World.setCell] using h.lt, ⟨by simpa using h.arg.le, h.arg.max, fun e => (by cases e), .inr ⟨g, 0, rfl, by simpa [World.setCell] using h.lt, fun j hj => ?_⟩⟩, fun j => (World.frozen?_setCell _ _ _ _).trans (h.free j)⟩
  have hj' : j < l.length := by simpa using hj
  have hcj := reads_cell hr j hj'
  rw [Nat.zero_add] at hcj ⊢
  by_cases hjk : j = k
  · subst hjk
    rw [World.cell?_setCell_same _ _ _ hcj]
    simp [List.getD, hj']
  · rw [World.cell?_setCell_other _ _ _ _ (by simp [hjk]), hcj]
    congr 2
    simp [List.getD, List.getElem?_set, Ne.symm hjk]
theorem Mem.below {w w' : World} {base g c C : Nat} {l : List UInt8} (h : Mem w base g c l) (hb : Below C w w') (hC : w.heap.size ≤ C) : Mem w' base g c l :=
  ⟨h.base, by have := h.lt; have := hb.size; omega, ⟨h.arg.le, h.arg.max, h.arg.nil, h.arg.reads.below hb hC⟩, fun k => by
    have := h.free k
    have hblk := hb.block g (by have := h.lt; omega)
    simpa [World.frozen?, hblk] using this⟩
theorem Mem.cell {w : World} {base g c : Nat} {l : List UInt8} (h : Mem w base g c l) (k : Nat) (hk : k < l.length) : w.cell? ⟨g, k, none⟩ = some (.int .u8 (B (l.getD k 0))) := by
  have := reads_cell h.arg.reads k hk
  rwa [Nat.zero_add] at this

theorem bit_at (c : BitVec 32) (m : Nat) (hm : m < 32) : (Go.bits BinOp.and IntKind.u32 (U c / 2 ^ m) 1 == 1) = c.getLsbD m := by
  have h1 : U c / 2 ^ m = U (c >>> m) := by
    unfold U
    rw [BitVec.toNat_ushiftRight, Nat.shiftRight_eq_div_pow]
    simp
  rw [h1]
  have h2 : Go.bits BinOp.and IntKind.u32 (U (c >>> m)) 1 = U ((c >>> m) &&& 1#32) := by
    unfold U
    rw [show (1 : Int) = ((1 : Nat) : Int) from rfl, u32_and_nat _ _ (c >>> m).isLt (by omega)]
    simp
  rw [h2]
  have h3 : ((c >>> m) &&& 1#32) = if c.getLsbD m then 1#32 else 0#32 := by
    apply BitVec.eq_of_getLsbD_eq
    intro i hi
    rw [BitVec.getLsbD_and, BitVec.getLsbD_ushiftRight, BitVec.getLsbD_one]
    by_cases h0 : i = 0
    · subst h0; cases h : c.getLsbD m <;> simp [h]
    · cases h : c.getLsbD m <;> simp [h0, Ne.symm h0, BitVec.getLsbD_one]
  rw [h3]
  cases c.getLsbD m <;> decide
theorem xbit (x : UInt8) (j : Nat) : Go.bits BinOp.xor IntKind.u8 (B x) (2 ^ (j % 8) % 256) = B (x ^^^ bitB (j % 8)) := by
  have h : ∀ i : Fin 8, ((2 : Int) ^ i.val % 256) = B (bitB i.val) := by decide
  rw [h ⟨j % 8, by omega⟩, x8]
theorem Mem.other {w : World} {base g c : Nat} {l : List UInt8} (h : Mem w base g c l) (g' k : Nat) (v : Value) (hg : g ≠ g') : Mem (w.setCell ⟨g', k, none⟩ v) base g c l := by
  refine ⟨h.base, by simpa [World.setCell] using h.lt, ⟨h.arg.le, h.arg.max, h.arg.nil, .inr ⟨g, 0, rfl, by simpa [World.setCell] using h.lt, fun j hj => ?_⟩⟩, fun j => (World.frozen?_setCell _ _ _ _).trans (h.free j)⟩
  rw [World.cell?_setCell_other _ _ _ _ (by simp [hg])]
  exact reads_cell h.arg.reads j hj

def flips (s : List UInt8) (js : Nat → Nat) : Nat → List UInt8
  | 0 => s
  | m + 1 => flip (flips s js m) (js m)
theorem flips_len (s : List UInt8) (js : Nat → Nat) (m : Nat) : (flips s js m).length = s.length := by
  induction m with
  | zero => rfl
  | succ m ih => simp only [flips, flip_len, ih]
theorem Mem.text {w : World} {base g c : Nat} {l : List UInt8} (h : Mem w base g c l) (n : Nat) (hn : l.length = n) : (convert 22 9 (.slice (some ⟨g, 0, none⟩) n c)).run Tryd.prog w = .ok (.string ⟨l.toArray⟩) w := by
  subst hn
  refine run_convert_bytes_back w _ _ _ _ c l Tryd.underlying22 Tryd.underlying5 Tryd.underlying9 fun j hj => ?_
  rw [show (⟨g, 0, none⟩ : Addr).add j = ⟨g, 0 + j, none⟩ from by rw [Addr.add_lit]]
  rw [reads_cell h.arg.reads j hj]
  simp [B, List.getD, hj]

set_option maxRecDepth 100000 in
set_option maxHeartbeats 1000000 in
theorem finds_near (A : Option Addr) (cap : Nat) (l : List UInt8) (at_ p_ q_ r_ : Int) (bits : BitVec 32) (w : World) (p : Nat → Addr) (ha : Arg w A cap l) (ht : Tabs w) (hs : Sents w p) (hw : 4 ≤ w.heap.size) (hl : l.length ≤ 1000)
    (c1 : -9223372036854775808 ≤ at_) (c2 : at_ ≤ 9223372036854775807) (d1 : -9223372036854775808 ≤ p_) (d2 : p_ ≤ 9223372036854775807) (e1 : -9223372036854775808 ≤ q_) (e2 : q_ ≤ 9223372036854775807) (f1 : -9223372036854775808 ≤ r_) (f2 : r_ ≤ 9223372036854775807) :
    Calls Tryd.prog 4 #[.slice A l.length cap, .int .i64 at_, .int .u32 (U bits), .int .i64 p_, .int .i64 q_, .int .i64 r_] w fun e w' => e = .returned (.bool true) ∧ Below w.heap.size w w' := by
  have HA := hide ha
  have HT := hide ht
  have HS := hide hs
  have h1 := ha.le
  have h2 := ha.max
  clear ha ht hs
  go_enter Tryd.func4, Tryd.ntmps4
  go_wp2_with (go_at_call 14; refine (first_any _ HT.out hw).mono ?_; rintro e w1 ⟨rfl, hb1⟩)
  refine (seal_any A cap l.length l w1 rfl (by omega) (HA.out.reads.below hb1 (Nat.le_refl _)) (HT.out.below hb1 hw) (Nat.le_trans hw hb1.size)).mono ?_
  rintro e w2 ⟨v2, rfl, ho2, hb2⟩
  have hop := opens_sealed l
  have hls : (l ++ little (sum l)).length = l.length + 4 := by simp [little_len]
  have htk : (l ++ little (sum l)).take l.length = l := by simp
  generalize l ++ little (sum l) = s at *
  obtain ⟨g2, k2, rfl, hm2⟩ := Mem.of ho2 (by omega)
  have HB2 := hide (hb1.trans (hb2.mono hb1.size))
  have HM2 := hide (hm2.base_le hb1.size)
  have HOP := hide hop
  have HTK := hide htk
  have HLS := hide hls
  rw [hls]
  clear hm2 hop htk hls ho2 hb2
  go_wp2_with fail
  refine (num_at at_ _ (8 * (l.length + 4)) w2 (by omega) (by omega) (by omega) c1 c2).mono ?_
  rintro e w3 ⟨rfl, rfl⟩
  have hk := num_lt at_ (8 * (l.length + 4)) (by omega)
  generalize num at_ (8 * (l.length + 4)) = k at *
  go_wp2_with fail
  refine (bytes_any (some ⟨g2, 0, none⟩) k2 (l.length + 4) s w2 HLS.out (by omega) HM2.out.arg.reads).mono ?_
  rintro e w4 ⟨v4, rfl, ho4, hb4⟩
  obtain ⟨g4, k4, rfl, hm4⟩ := Mem.of ho4 (by rw [HLS.out]; omega)
  have HB4 := hide (HB2.out.trans (hb4.mono HB2.out.size))
  have HM4 := hide hm4
  have HM24 := hide (HM2.out.below hb4 (Nat.le_refl _))
  rw [HLS.out]
  clear hm4 hb4 ho4
  go_upto_block 0 with fail
  have h24 : g2 ≠ g4 := by have := HM2.out.lt; have := HM4.out.base; omega
  have h04 : w.heap.size ≤ g4 := Nat.le_trans HB2.out.size HM4.out.base
  go_cut [18] (fun _ wc => ∃ t, Mem wc w2.heap.size g4 k4 t ∧ (t ≠ s → ¬ Crc.opens t) ∧ t.length = l.length + 4 ∧ Mem wc w.heap.size g2 k2 s ∧ Below w.heap.size w wc)
  case first =>
    go_wp2_with fail
    go_loopw [18] (fun i wr => ∃ m : Nat, m ≤ 32 ∧ k + m ≤ 8 * (l.length + 4) ∧ i = .int .i64 m ∧ Mem wr w2.heap.size g4 k4 (burst s k bits m) ∧ Mem wr w.heap.size g2 k2 s ∧ Below w.heap.size w wr) (fun i _ => 32 - (intOf i).toNat)
    case atStart => exact ⟨0, Nat.zero_le _, by omega, rfl, HM4.out, HM24.out, HB4.out⟩
    case round =>
      obtain ⟨m, hm, hkm, rfl, hmt, hms, hb⟩ := hrel
      have HMT := hide hmt
      have HMS := hide hms
      have HBK := hide hb
      clear hmt hms hb
      by_cases hlt : m < 32 ∧ k + m < 8 * (l.length + 4)
      · obtain ⟨hlt1, hlt2⟩ := hlt
        have hbit := bit_at bits m hlt1
        have hkb : (k + m) / 8 < (burst s k bits m).length := by rw [burst_len, HLS.out]; omega
        have hcell := HMT.out.cell ((k + m) / 8) hkb
        have hfree := HMT.out.free ((k + m) / 8)
        have HST := hide (HMT.out.set ((k + m) / 8) ((burst s k bits m).getD ((k + m) / 8) 0 ^^^ bitB ((k + m) % 8)) hkb)
        clear hkb
        have HFL : Hid (flip (burst s k bits m) (k + m) = (burst s k bits m).set ((k + m) / 8) ((burst s k bits m).getD ((k + m) / 8) 0 ^^^ bitB ((k + m) % 8))) := rfl
        generalize (burst s k bits m).getD ((k + m) / 8) 0 = xk at *
        have hx8 := xbit xk (k + m)
        have HBU : Hid (burst s k bits (m + 1) = if bits.getLsbD m then flip (burst s k bits m) (k + m) else burst s k bits m) := rfl
        cases hv : bits.getLsbD m
        · rw [hv] at hbit
          have HV := hide hv
          clear hv
          go_wp2_with fail
          refine ⟨⟨m + 1, by omega, by omega, rfl, ?_, HMS.out, HBK.out⟩, by simp [intOf]; omega⟩
          rw [HBU.out, HV.out]
          exact HMT.out
        · rw [hv] at hbit
          have HV := hide hv
          clear hv
          go_wp2_with fail
          refine ⟨⟨m + 1, by omega, by omega, rfl, ?_, HMS.out.other _ _ _ h24, HBK.out.setCell h04 _⟩, by simp [intOf]; omega⟩
          rw [HBU.out, HV.out, if_pos rfl, HFL.out]
          exact HST.out
      · have HNO := hide (not_opens_burst s k bits m hm (by rw [HLS.out]; exact hkm) (by rw [HLS.out]; omega) HOP.out)
        go_wp2_with fail
        all_goals
          go_meet
          exact ⟨_, HMT.out, HNO.out, by rw [burst_len, HLS.out], HMS.out, HBK.out⟩
  case rest =>
    obtain ⟨t, hmt, hno, hlt, hms, hb⟩ := hcut
    have HMT := hide hmt
    have HMS := hide hms
    have HBC := hide hb
    have HNO := hide hno
    have HLT := hide hlt
    have ht1 := hmt.text (l.length + 4) hlt
    have ht2 := hms.text (l.length + 4) HLS.out
    clear hmt hno hlt hms hb
    go_upto_if 85 with fail
    go_cut [19, 20] (fun _ _ wd => Mem wd w.heap.size g2 k2 s ∧ Below w.heap.size w wd)
    case first =>
      by_cases hts : t = s
      · have hq : (t == s) = true := by simp [hts]
        simp only [hq, Bool.not_true]
        go_wp2_with fail
        go_meet
        exact ⟨HMS.out, HBC.out⟩
      · have hq : (t == s) = false := by simp [hts]
        have hopen := open_at (some ⟨g4, 0, none⟩) k4 t wc p false (by simp; exact HNO.out hts) (by rw [HLT.out]; omega) (by rw [HLT.out]; omega) HMT.out.arg (HT.out.below HBC.out hw) (HS.out.below HBC.out)
        rw [HLT.out] at hopen
        have HOPEN := hide hopen
        clear hopen
        simp only [hq, Bool.not_false]
        go_wp2_with fail
        refine HOPEN.out.mono ?_
        rintro e w5 ⟨hb5, he⟩
        simp only [Bool.false_eq_true, if_false] at he
        subst he
        have HMS5 := hide (HMS.out.below hb5 (Nat.le_refl _))
        have HB5 := hide (HBC.out.trans (hb5.mono HBC.out.size))
        clear hb5
        have HQ := hide (is_sent w5 p (HS.out.below HB5.out) 1 (by omega) 102)
        unfold errV at *
        go_wp2_with fail
        refine HQ.out.mono ?_
        rintro e w6 ⟨rfl, hb6⟩
        have HMS6 := hide (HMS5.out.below hb6 (Nat.le_refl _))
        have HB6 := hide (HB5.out.trans (hb6.mono HB5.out.size))
        clear hb6
        go_wp2_with fail
        go_meet
        exact ⟨HMS6.out, HB6.out⟩
    case rest =>
      obtain ⟨hms, hbd⟩ := hcut
      have HMD := hide hms
      have HBD := hide hbd
      clear hms hbd ht1 ht2 HMT HMS HBC HNO HLT HM4 HM24 HB4
      go_wp2_with fail
      refine (bytes_any (some ⟨g2, 0, none⟩) k2 (l.length + 4) s wc HLS.out (by omega) HMD.out.arg.reads).mono ?_
      rintro e w7 ⟨v7, rfl, ho7, hb7⟩
      obtain ⟨g7, k7, rfl, hm7⟩ := Mem.of ho7 (by rw [HLS.out]; omega)
      have HB7 := hide (HBD.out.trans (hb7.mono HBD.out.size))
      have HM7 := hide hm7
      have HM27 := hide (HMD.out.below hb7 (Nat.le_refl _))
      rw [HLS.out]
      have h27 : g2 ≠ g7 := by have := HMD.out.lt; have := HM7.out.base; omega
      have h07 : w.heap.size ≤ g7 := Nat.le_trans HBD.out.size HM7.out.base
      clear hm7 hb7 ho7
      go_upto_region 24 with fail
      refine (num_at p_ _ (8 * (l.length + 4)) _ (by omega) (by omega) (by omega) d1 d2).mono ?_
      rintro e w8 ⟨rfl, rfl⟩
      have hp := num_lt p_ (8 * (l.length + 4)) (by omega)
      generalize num p_ (8 * (l.length + 4)) = j0 at *
      go_wp2_with fail
      refine (num_at q_ _ (8 * (l.length + 4)) _ (by omega) (by omega) (by omega) e1 e2).mono ?_
      rintro e w8 ⟨rfl, rfl⟩
      have hq := num_lt q_ (8 * (l.length + 4)) (by omega)
      generalize num q_ (8 * (l.length + 4)) = j1 at *
      go_wp2_with fail
      refine (num_at r_ _ (8 * (l.length + 4)) _ (by omega) (by omega) (by omega) f1 f2).mono ?_
      rintro e w8 ⟨rfl, rfl⟩
      have hr := num_lt r_ (8 * (l.length + 4)) (by omega)
      generalize num r_ (8 * (l.length + 4)) = j2 at *
      go_upto_block 2 with fail
      obtain ⟨js, hj0, hj1, hj2⟩ : ∃ js : Nat → Nat, js 0 = j0 ∧ js 1 = j1 ∧ js 2 = j2 := ⟨fun i => if i = 0 then j0 else if i = 1 then j1 else j2, rfl, rfl, rfl⟩
      have hjs : ∀ m, m < 3 → js m < 8 * (l.length + 4) := by
        intro m hm
        match m, hm with
        | 0, _ => rw [hj0]; exact hp
        | 1, _ => rw [hj1]; exact hq
        | 2, _ => rw [hj2]; exact hr
      have hcells : ∀ m, m < 3 → (w7.alloc (Obj.cells #[Value.int IntKind.i64 j0, Value.int IntKind.i64 j1, Value.int IntKind.i64 j2] 3)).cell? ⟨w7.heap.size, m, none⟩ = some (.int .i64 (js m)) := by
        intro m hm
        match m, hm with
        | 0, _ => rw [hj0]; simp
        | 1, _ => rw [hj1]; simp
        | 2, _ => rw [hj2]; simp
      have hba : Below w7.heap.size w7 (w7.alloc (Obj.cells #[Value.int IntKind.i64 j0, Value.int IntKind.i64 j1, Value.int IntKind.i64 j2] 3)) := below_alloc (Below.refl _ _) _
      have h87 : w7.heap.size ≠ g7 := by have := HM7.out.lt; omega
      have h82 : w7.heap.size ≠ g2 := by have := HM27.out.lt; omega
      have h88 : w.heap.size ≤ w7.heap.size := HB7.out.size
      have hsz8 : w7.heap.size < (w7.alloc (Obj.cells #[Value.int IntKind.i64 j0, Value.int IntKind.i64 j1, Value.int IntKind.i64 j2] 3)).heap.size := by simp
      have HB8 := hide (HB7.out.trans (hba.mono HB7.out.size))
      have HM8 := hide (HM7.out.below hba (Nat.le_refl _))
      have HM28 := hide (HM27.out.below hba (Nat.le_refl _))
      have HC8 := hide hcells
      clear hcells hba HB7 HM7 HM27 hj0 hj1 hj2 hp hq hr
      generalize w7.alloc (Obj.cells #[Value.int IntKind.i64 j0, Value.int IntKind.i64 j1, Value.int IntKind.i64 j2] 3) = w8 at *
      generalize w7.heap.size = g8 at *
      go_cut [23] (fun _ we => Mem we wc.heap.size g7 k7 (flips s js 3) ∧ Mem we w.heap.size g2 k2 s ∧ Below w.heap.size w we)
      case first =>
        go_wp2_with fail
        go_loopw [23] (fun i wr => ∃ m : Nat, m ≤ 3 ∧ i = .int .i64 m ∧ Mem wr wc.heap.size g7 k7 (flips s js m) ∧ Mem wr w.heap.size g2 k2 s ∧ (∀ j, j < 3 → wr.cell? ⟨g8, j, none⟩ = some (.int .i64 (js j))) ∧ Below w.heap.size w wr ∧ g8 < wr.heap.size) (fun i _ => 3 - (intOf i).toNat)
        case atStart => exact ⟨0, by omega, rfl, HM8.out, HM28.out, HC8.out, HB8.out, hsz8⟩
        case round =>
          obtain ⟨m, hm, rfl, hmt, hms, hcj, hb, hg8⟩ := hrel
          have HMT := hide hmt
          have HMS := hide hms
          have HBK := hide hb
          have HCJ := hide hcj
          clear hmt hms hb hcj
          by_cases hlt : m < 3
          · have hjm := hjs m hlt
            have hcm := HCJ.out m hlt
            have HJM : Hid (flips s js (m + 1) = flip (flips s js m) (js m)) := rfl
            generalize js m = jm at *
            have hkb : jm / 8 < (flips s js m).length := by rw [flips_len, HLS.out]; omega
            have hset := fun (W : World) (h : Below wr.heap.size wr W) => (HMT.out.below h (Nat.le_refl _)).set (jm / 8) ((flips s js m).getD (jm / 8) 0 ^^^ bitB (jm % 8)) hkb
            have HFL : Hid (flip (flips s js m) jm = (flips s js m).set (jm / 8) ((flips s js m).getD (jm / 8) 0 ^^^ bitB (jm % 8))) := rfl
            have hcell := HMT.out.cell (jm / 8) hkb
            have hgl := HMT.out.lt
            clear hkb
            generalize (flips s js m).getD (jm / 8) 0 = xk at *
            have hx8 := xbit xk jm
            have HSET := hide hset
            clear hset
            go_upto_region 24 with fail
            refine wp_region_made [110, 111, 112, 113, 114, 115, 116, 117, 118, 119, 120, 121, 122, 123, 124, 125, 126] (fun d => match d with
              | 110 => .is (.slice (some ⟨g7, 0, none⟩) (l.length + 4) k7) | 111 => .is (.slice (some ⟨g8, 0, none⟩) 3 3) | 112 => .is (.int .i64 m) | 113 => .is (.pointer (some ⟨g8, m, none⟩)) | 114 => .is (.int .i64 jm)
              | 115 => .is (.int .i64 (jm / 8 : Nat)) | 116 => .is (.pointer (some ⟨g7, jm / 8, none⟩)) | 117 => .is (.int .u8 (B xk))
              | 118 => .is (.slice (some ⟨g8, 0, none⟩) 3 3) | 119 => .is (.int .i64 m) | 120 => .is (.pointer (some ⟨g8, m, none⟩)) | 121 => .is (.int .i64 jm)
              | 122 => .is (.int .i64 (jm % 8 : Nat)) | 123 => .is (.int .u64 (jm % 8 : Nat)) | 124 => .is (.int .u8 (2 ^ (jm % 8) % 256)) | 125 => .is (.int .u8 (B (xk ^^^ bitB (jm % 8)))) | 126 => .is (.pointer (some ⟨g7, jm / 8, none⟩))
              | _ => .any) _ (by kernel_rfl) (by kernel_rfl) rfl (by kernel_rfl) ?_ ?_
            · simp only [List.size_toArray, List.length_cons, List.length_nil, List.take_succ_cons, List.take_zero, StepsOk]
              refine ⟨?_, ?_, ?_, ?_, ?_, ?_, ?_, ?_, ?_, ?_, ?_, ?_, ?_, ?_, ?_, ?_, ?_, trivial⟩
              all_goals
                intro ev w1 hb hev hd
                have ev21 : ev (.tmp 21) = .slice (some ⟨g7, 0, none⟩) (l.length + 4) k7 := hev _ (by simp)
                have ev22 : ev (.tmp 22) = .slice (some ⟨g8, 0, none⟩) 3 3 := hev _ (by simp)
                have ev23 : ev (.tmp 23) = .int .i64 m := hev _ (by simp)
                have evc : ∀ f, ev (.const f) = f := fun f => hev _ (by simp)
                have hcm1 := (hb.cell (p := ⟨g8, m, none⟩) hg8).trans hcm
                have hcell1 := (hb.cell (p := ⟨g7, jm / 8, none⟩) hgl).trans hcell
                clear hev hb
                simp [DepsOk, Known.is, Known.one] at hd
                try simp [OpRuns, execOp, go_sem, Known.is, Known.one, Below.refl, *]
              · exact IntWalk.i64_in _ ⟨by omega, by omega⟩
              · rw [if_pos ⟨by omega, by omega⟩]
                exact ⟨Below.refl _ _, by rw [show ((jm : Int) / 8).toNat = jm / 8 by omega]⟩
              · exact Int.tmod_eq_emod_of_nonneg (by omega)
              · rw [IntKind.wrap_u64]; omega
              · rw [show ((jm : Int) % 8).toNat = jm % 8 by omega, IntKind.wrap_u8]
              · rw [if_pos ⟨by omega, by omega⟩]
                exact ⟨Below.refl _ _, by rw [show ((jm : Int) / 8).toNat = jm / 8 by omega]⟩
            · intro f w1 hb hf
              have hbw := hide hb
              have e126 : f 126 = .pointer (some ⟨g7, jm / 8, none⟩) := hf 126 (by simp)
              have e125 : f 125 = .int .u8 (B (xk ^^^ bitB (jm % 8))) := hf 125 (by simp)
              have hcell1 := (hb.cell (p := ⟨g7, jm / 8, none⟩) hgl).trans hcell
              have hfr1 := (HMT.out.below hb (Nat.le_refl _)).free (jm / 8)
              clear hf hb
              simp only [puts]
              go_wp2_with fail
              refine ⟨⟨m + 1, by omega, rfl, ?_, (HMS.out.below hbw.out (Nat.le_refl _)).other _ _ _ h27, fun j hj => ?_, (HBK.out.trans (hbw.out.mono HBK.out.size)).setCell h07 _, ?_⟩, by simp [intOf]; omega⟩
              · rw [HJM.out, HFL.out]
                exact HSET.out _ hbw.out
              · rw [World.cell?_setCell_other _ _ _ _ (by simp [h87])]
                exact (hbw.out.cell (p := ⟨g8, j, none⟩) hg8).trans (HCJ.out j hj)
              · have := hbw.out.size
                simp [World.setCell]; omega
          · go_wp2_with fail
            go_meet
            obtain rfl : m = 3 := by omega
            exact ⟨HMT.out, HMS.out, HBK.out⟩
      case rest =>
        obtain ⟨hmt, hms, hb⟩ := hcut
        have h3 := not_opens_three s (js 0) (js 1) (js 2) (by rw [HLS.out]; exact hjs 0 (by omega)) (by rw [HLS.out]; exact hjs 1 (by omega)) (by rw [HLS.out]; exact hjs 2 (by omega)) (by rw [HLS.out]; omega) HOP.out
        have hfl : (flips s js 3).length = l.length + 4 := by rw [flips_len, HLS.out]
        have h3' : ¬ Crc.opens (flips s js 3) ∧ flips s js 3 ≠ s := h3
        clear h3
        generalize flips s js 3 = u at *
        have hq : (u == s) = false := by simp [h3'.2]
        have HMT := hide hmt
        have HMS := hide hms
        have HBC := hide hb
        have HFL := hide hfl
        have hopen := open_at (some ⟨g7, 0, none⟩) k7 u wc p false (by simp; exact h3'.1) (by rw [hfl]; omega) (by rw [hfl]; omega) hmt.arg (HT.out.below hb hw) (HS.out.below hb)
        rw [hfl] at hopen
        have HOPEN := hide hopen
        clear hopen hmt hms hb hfl h3'
        go_wp2_with fail
        refine HOPEN.out.mono ?_
        rintro e w9 ⟨hb9, he⟩
        simp only [Bool.false_eq_true, if_false] at he
        subst he
        have HMT9 := hide (HMT.out.below hb9 (Nat.le_refl _))
        have HMS9 := hide (HMS.out.below hb9 (Nat.le_refl _))
        have HB9 := hide (HBC.out.trans (hb9.mono HBC.out.size))
        clear hb9 HOPEN
        have hopen := open_at (some ⟨g2, 0, none⟩) k2 s w9 p true (by simp [HOP.out]) (by rw [HLS.out]; omega) (by rw [HLS.out]; omega) HMS9.out.arg (HT.out.below HB9.out hw) (HS.out.below HB9.out)
        rw [HLS.out] at hopen
        have HOPEN := hide hopen
        clear hopen
        unfold errV at *
        go_wp2_with fail
        refine HOPEN.out.mono ?_
        rintro e w10 ⟨hb10, he⟩
        simp only [if_true] at he
        obtain ⟨A10, c10, rfl, hr10⟩ := he
        rw [Nat.add_sub_cancel, HTK.out] at hr10
        rw [Nat.add_sub_cancel]
        have HMT10 := hide (HMT9.out.below hb10 (Nat.le_refl _))
        have HMS10 := hide (HMS9.out.below hb10 (Nat.le_refl _))
        have HB10 := hide (HB9.out.trans (hb10.mono HB9.out.size))
        have HR10 := hide hr10
        clear hb10 HOPEN hr10
        have hcu : ∀ n, (convert 22 9 (.slice (some ⟨g7, 0, none⟩) (l.length + 4) k7)).run Tryd.prog (w10.drewN n) = .ok (.string ⟨u.toArray⟩) (w10.drewN n) := fun n =>
          (HMT10.out.below (below_drewN (Below.refl _ _) n) (Nat.le_refl _)).text _ HFL.out
        have hcs : ∀ n, (convert 22 9 (.slice (some ⟨g2, 0, none⟩) (l.length + 4) k2)).run Tryd.prog (w10.drewN n) = .ok (.string ⟨s.toArray⟩) (w10.drewN n) := fun n =>
          (HMS10.out.below (below_drewN (Below.refl _ _) n) (Nat.le_refl _)).text _ HLS.out
        have hsb : ∀ n, Calls Tryd.prog 20 #[.slice A10 l.length c10, .slice A l.length cap] (w10.drewN n) fun e w' => e = .returned (.bool true) ∧ ∃ k, w' = (w10.drewN n).drewN k := fun n =>
          (sameBytes_any A10 A c10 cap l.length l.length l l _ rfl rfl (by omega) (by omega) (HR10.out.below (below_drewN (Below.refl _ _) n) (Nat.le_refl _)) (HA.out.reads.below (below_drewN HB10.out n) (Nat.le_refl _))).mono fun e w' ⟨h1, h2⟩ => ⟨by rw [h1]; simp, h2⟩
        have HSB := hide hsb
        clear hsb
        go_upto_region 27 with fail
        go_quiet (first | (go_at_call 20; exact Calls.quiet_of (HSB.out _)))
        go_wp2_with fail
        go_ret
        exact ⟨rfl, below_drewN HB10.out _⟩

theorem finds_far (A : Option Addr) (cap : Nat) (l : List UInt8) (at_ p_ q_ r_ : Int) (bits : BitVec 32) (w : World) (ha : Arg w A cap l) (ht : Tabs w) (hw : 4 ≤ w.heap.size) (hl : 1000 < l.length) :
    Calls Tryd.prog 4 #[.slice A l.length cap, .int .i64 at_, .int .u32 (U bits), .int .i64 p_, .int .i64 q_, .int .i64 r_] w fun e w' => e = .returned (.bool true) ∧ Below w.heap.size w w' := by
  have h1 := ha.le
  have h2 := ha.max
  clear ha
  go_enter Tryd.func4, Tryd.ntmps4
  go_wp2_with (go_at_call 14; refine (first_any _ ht hw).mono ?_; rintro e w1 ⟨rfl, hb1⟩)
  go_ret
  exact ⟨rfl, hb1⟩

theorem finds_walk (A : Option Addr) (cap : Nat) (l : List UInt8) (at_ p_ q_ r_ : Int) (bits : BitVec 32) (w : World) (p : Nat → Addr) (ha : Arg w A cap l) (ht : Tabs w) (hs : Sents w p) (hw : 4 ≤ w.heap.size)
    (c1 : -9223372036854775808 ≤ at_) (c2 : at_ ≤ 9223372036854775807) (d1 : -9223372036854775808 ≤ p_) (d2 : p_ ≤ 9223372036854775807) (e1 : -9223372036854775808 ≤ q_) (e2 : q_ ≤ 9223372036854775807) (f1 : -9223372036854775808 ≤ r_) (f2 : r_ ≤ 9223372036854775807) :
    Calls Tryd.prog 4 #[.slice A l.length cap, .int .i64 at_, .int .u32 (U bits), .int .i64 p_, .int .i64 q_, .int .i64 r_] w fun e w' => e = .returned (.bool true) ∧ Below w.heap.size w w' := by
  by_cases h : 1000 < l.length
  · exact finds_far A cap l at_ p_ q_ r_ bits w ha ht hw h
  · exact finds_near A cap l at_ p_ q_ r_ bits w p ha ht hs hw (by omega) c1 c2 d1 d2 e1 e2 f1 f2
end Go.Proofs.YtdiplknlkmealaaDoor
