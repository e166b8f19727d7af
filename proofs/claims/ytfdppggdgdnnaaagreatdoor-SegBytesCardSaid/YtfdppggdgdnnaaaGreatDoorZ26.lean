/-
  The reference's reader beside a batch that is built record by record; a row of structs that is appended to in a region that draws its order.
  The walk through the reference's Parse.
  The walk through the reference's Read.
  The walk through the reference's All.
-/
import Derived.Test.YtfdppggdgdnnaaaGreatDoorZ25
import Derived.Test.YtfdppggdgdnnaaaGreatDoorZ3
import Derived.Test.YtfdppggdgdnnaaaGreatDoorZ16
import Derived.Deep.RegionHeld3
import Derived.Deep.DeepCutAuto
import Derived.RegionTactic
import Derived.BigRegion
import Derived.Deep.RegionLaw
import Derived.Test.YtfdppggdgdnnaaaGreatDoorZ20
import Derived.Test.YtfdppggdgdnnaaaGreatDoorZ4
import Derived.Test.YtfdppggdgdnnaaaGreatDoorZ12
namespace Go.Proofs.YtfdppggdgdnnaaaGreatDoor
open Go.RowKit

theorem RRd.first_new (w : World) (A : Option Addr) (cap : Nat) (l : List UInt8) (h : Arg w A cap l) : RRd (w.alloc (.cells #[.slice A l.length cap, .int .i64 0, .int .i64 0, .bool false, .int .i64 0] 189)) A cap w.heap.size l start := by
  have hb : Below w.heap.size w (w.alloc (.cells #[.slice A l.length cap, .int .i64 0, .int .i64 0, .bool false, .int .i64 0] 189)) := balloc (Below.refl _ _) _
  refine ⟨by simp, fun k => by simp [go_sem], ⟨Nat.zero_le _, .inl ⟨rfl, rfl⟩⟩, ?_, ?_, ?_, ?_, ?_, h.below hb (Nat.le_refl _), fun b off e hl => ?_, fun k hk => ?_⟩
  · rw [World.cell?_alloc_mark]; rfl
  · rw [World.cell?_alloc_mark]; rfl
  · rw [World.cell?_alloc_mark]; rfl
  · rw [World.cell?_alloc_mark]; rfl
  · rw [World.cell?_alloc_mark]; rfl
  · rcases h.reads with h0 | ⟨b', off', e', hlt, _⟩
    · exact absurd h0 hl
    · rw [e] at e'
      injection e' with e'
      injection e' with e1
      omega
  · rw [World.cell?_alloc_mark]
    simp
    omega
theorem RRd.grown {w w' : World} {row : Option Nat} {A : Option Addr} {cap g : Nat} {l : List UInt8} {s : Vi.Rs} (h : RRd w A cap g l s) (hg : w.grownBy w' row) (hne : some g ≠ row) (hA : l ≠ [] → ∀ b off, A = some ⟨b, off, none⟩ → some b ≠ row) : RRd w' A cap g l s := by
  have hc : ∀ k, w'.cell? ⟨g, k, none⟩ = w.cell? ⟨g, k, none⟩ := fun k => World.cell?_of_block (a := ⟨g, k, none⟩) (hg.block g h.lt hne)
  have hf : ∀ k, w'.frozen? ⟨g, k, none⟩ = w.frozen? ⟨g, k, none⟩ := fun k => World.frozen?_of_block (a := ⟨g, k, none⟩) (hg.block g h.lt hne)
  exact ⟨Nat.lt_of_lt_of_le h.lt hg.size, fun k => (hf k).trans (h.free k), h.ok, (hc 0).trans h.c0, (hc 1).trans h.c1, (hc 2).trans h.c2, (hc 3).trans h.c3, (hc 4).trans h.c4, h.arg.grown hg hA, h.ne, fun k hk => (hc k).trans (h.past k hk)⟩
theorem Res.grown {w w' : World} {row : Option Nat} {R : Nat} (h : Res w R) (hg : w.grownBy w' row) (hl : R < w.heap.size) (hne : some R ≠ row) : Res w' R := by
  have hc : ∀ k, w'.cell? ⟨R, k, none⟩ = w.cell? ⟨R, k, none⟩ := fun k => World.cell?_of_block (a := ⟨R, k, none⟩) (hg.block R hl hne)
  exact ⟨(hc 0).trans h.c0, (hc 1).trans h.c1, (hc 2).trans h.c2, fun k => (World.frozen?_of_block (a := ⟨R, k, none⟩) (hg.block R hl hne)).trans (h.f k)⟩
theorem Bld.but {w0 w w' : World} {B lo g : Nat} {base ep : Int} {v : Value} {qs : List PRec} (h : Bld w0 w B lo base ep v qs) (hb : But g w w') (h0 : w0.heap.size ≤ g) (hg : g < B) : Bld w0 w' B lo base ep v qs := by
  have ol := h.ol
  have hB : B < w.heap.size := Nat.lt_of_lt_of_le h.ol h.os
  exact ⟨(hb.cell hB (by omega)).trans h.c0, (hb.cell hB (by omega)).trans h.c1, (hb.cell hB (by omega)).trans h.c2, fun k => (hb.frozen hB (by omega)).trans (h.f k), h.ob, h.ol, Nat.le_trans h.os hb.size, h.row.keep hb.grown (by omega), h.below.grown hb.grown h.below.size (fun k e => by injection e with e; omega)⟩

/-- The reader at g, the batch at B, the result's block at R, in the midst of Parse. -/
structure PSt (w0 w : World) (A : Option Addr) (cap g R : Nat) (l : List UInt8) (s : Vi.Rs) (B lo : Nat) (base ep : Int) (v : Value) (qs : List PRec) : Prop where
  rd : RRd w A cap g l s
  bl : Bld w0 w B lo base ep v qs
  res : Res w R
  R0 : w0.heap.size ≤ R
  Rg : R < g
  gB : g < B
  aw : l ≠ [] → ∀ b off, A = some ⟨b, off, none⟩ → b < w0.heap.size
theorem PSt.lts {w0 w : World} {A : Option Addr} {cap g R : Nat} {l : List UInt8} {s : Vi.Rs} {B lo : Nat} {base ep : Int} {v : Value} {qs : List PRec} (h : PSt w0 w A cap g R l s B lo base ep v qs) : w0.heap.size ≤ R ∧ R < g ∧ g < B ∧ B < lo ∧ lo ≤ w.heap.size := ⟨h.R0, h.Rg, h.gB, h.bl.ol, h.bl.os⟩
theorem PSt.reader {w0 w w' : World} {A : Option Addr} {cap g R : Nat} {l : List UInt8} {s s' : Vi.Rs} {B lo : Nat} {base ep : Int} {v : Value} {qs : List PRec} (h : PSt w0 w A cap g R l s B lo base ep v qs) (hr : RRd w' A cap g l s') (hb : But g w w') : PSt w0 w' A cap g R l s' B lo base ep v qs := by
  obtain ⟨z0, z1, z2, z3, z4⟩ := h.lts
  exact ⟨hr, h.bl.but hb (by omega) z2, h.res.grown hb.grown (by omega) (by simp; omega), h.R0, h.Rg, h.gB, h.aw⟩
theorem PSt.quiet {w0 w w' : World} {A : Option Addr} {cap g R : Nat} {l : List UInt8} {s : Vi.Rs} {B lo : Nat} {base ep : Int} {v : Value} {qs : List PRec} (h : PSt w0 w A cap g R l s B lo base ep v qs) (hb : Below w.heap.size w w') : PSt w0 w' A cap g R l s B lo base ep v qs := by
  obtain ⟨z0, z1, z2, z3, z4⟩ := h.lts
  exact ⟨h.rd.below hb, h.bl.quiet hb, h.res.below hb (by omega), h.R0, h.Rg, h.gB, h.aw⟩
theorem PSt.push {w0 w w1 w2 : World} {A : Option Addr} {cap g R : Nat} {l : List UInt8} {s : Vi.Rs} {B lo : Nat} {base ep : Int} {v v' : Value} {qs : List PRec} {q : PRec} (h : PSt w0 w A cap g R l s B lo base ep v qs) (hk : Txt w lo v q.Ak q.ck q.r.k) (hq : Txt w lo v q.Av q.cv q.r.v)
    (hw1 : Below w.heap.size w w1) (hg : w1.grownBy w2 v.ownBlock) (hv : v'.ownBlock = v.ownBlock ∨ v'.ownBlock = some w1.heap.size) (ho : w2.ownsRow lo 81 3 v' (qs.length + 1) (qs.flatMap PRec.cells ++ q.cells)) :
    PSt w0 (w2.setCell ⟨B, 2, none⟩ v') A cap g R l s B lo base ep v' (qs ++ [q]) := by
  obtain ⟨z0, z1, z2, z3, z4⟩ := h.lts
  have h1 := h.quiet hw1
  have hs1 := hw1.size
  have hs2 := hg.size
  have hvl : ∀ k, v.ownBlock = some k → lo ≤ k := fun k hk => (h.bl.row.own.lt k hk).1
  have hne : ∀ k, k < lo → some k ≠ v.ownBlock := fun k hk e => by have := hvl k e.symm; omega
  have hb := grown_set w2 B 2 v'
  have hA : l ≠ [] → ∀ b off, A = some ⟨b, off, none⟩ → b < g := fun hl b off e => by have := h.aw hl b off e; omega
  exact ⟨(h1.rd.grown hg (hne g (by omega)) (fun hl b off e => hne b (by have := hA hl b off e; omega))).grown hb (by simp; omega) (fun hl b off e => by have := hA hl b off e; simp; omega), h.bl.push hk hq hw1 hg hv ho,
    (h1.res.grown hg (by omega) (hne R (by omega))).grown hb (by omega) (by simp; omega), h.R0, h.Rg, h.gB, h.aw⟩

section
variable {w : World} {o : Oper} {a : Act} {Q : Exit → Act → World → Prop}
/-- append(s, x), s the call's own row of records, x a slice of one record: a step. -/
theorem step_push {K : Act → World → Prop} (s x : Operand) (ho : o.op = .call { callee := .builtin .append, args := #[s, x], argTypes := #[39, 39] })
    (base : Nat) (v : Value) (qs : List PRec) (q : PRec) (hs : a.eval s = v) (hown : w.ownsRow base 81 3 v qs.length (qs.flatMap PRec.cells)) (ad : Addr) (hx : a.eval x = .slice (some ad) 1 1) (hr : ∀ j u, q.cells[j]? = some u → w.cell? (ad.add j) = some u)
    (hlen : qs.length ≤ 1000000) (hbase : base ≤ w.heap.size)
    (h : ∀ v' w', w'.ownsRow base 81 3 v' (qs.length + 1) (qs.flatMap PRec.cells ++ q.cells) → w.grownBy w' v.ownBlock → (v'.ownBlock = v.ownBlock ∨ v'.ownBlock = some w.heap.size) → K (a.put o.dst v') w') : o.wp Tryz.prog a w K Q := by
  obtain ⟨i, hi, hz, hs1, hby⟩ := info_parts record_info
  obtain ⟨v', w', hrun, h2, h3, _, h5⟩ := run_append_own_at (P := Tryz.prog) w base 39 o.type 81 i _ 3 56 Tryz.underlying39 hi hz hs1 hby rfl (by omega) v qs.length (qs.flatMap PRec.cells) hown ad 1 1 q.cells rfl hr (PRec.cells_one q)
    (by simp only [maxLen]; omega) (by omega) hbase
  unfold Oper.wp execOp
  simp only [ho, resolve, invoke, builtin, Sem.run_bind, Sem.run_pure, Result.andThen_ok, List.map_toArray, List.map_cons, List.map_nil, hs, hx, hrun]
  exact h v' w' h2 h3 h5
end
end Go.Proofs.YtfdppggdgdnnaaaGreatDoor

namespace Go.Proofs.YtfdppggdgdnnaaaGreatDoor
open Go.RowKit

theorem NewBat.empty (lo : Nat) (w : World) : NewBat lo w none 0 ⟨0, 0, []⟩ := fun _ _ => ⟨Nat.le_refl _, by omega, .inl rfl, by decide, by decide⟩

set_option maxRecDepth 100000 in
set_option maxHeartbeats 2000000 in
theorem rparse_any (A : Option Addr) (cap n : Nat) (l : List UInt8) (w : World) (hn : l.length = n) (hl : n ≤ 70000) (ha : Arg w A cap l) :
    Calls Tryz.prog 121 #[.slice A n cap] w fun e w' => ∃ A' c', e = .returned (batV (Rc.rparse l).base (Rc.rparse l).epoch A' (Rc.rparse l).recs.length c') ∧ NewBat w.heap.size w' A' c' (Rc.rparse l) ∧ Below w.heap.size w w' := by
  subst hn
  obtain ⟨w1, hw1⟩ : ∃ w1, w1 = w.alloc (.cells #[.int .i64 0, .int .i64 0, .slice none 0 0] 41) := ⟨_, rfl⟩
  obtain ⟨w2, hw2⟩ : ∃ w2, w2 = w1.alloc (.cells #[.slice A l.length cap, .int .i64 0, .int .i64 0, .bool false, .int .i64 0] 189) := ⟨_, rfl⟩
  have hb1 : Below w.heap.size w w1 := hw1 ▸ balloc (Below.refl _ _) _
  have hz1 : w1.heap.size = w.heap.size + 1 := by rw [hw1]; simp
  have hb2 : Below w1.heap.size w1 w2 := hw2 ▸ balloc (Below.refl _ _) _
  have hz2 : w2.heap.size = w.heap.size + 2 := by rw [hw2]; simp [hz1]
  have hres : Res w2 w.heap.size := (hw1 ▸ Res.new w 41 : Res w1 w.heap.size).below hb2 (by omega)
  have hrd : RRd w2 A cap (w.heap.size + 1) l start := by
    have := RRd.first_new w1 A cap l (ha.below hb1 (Nat.le_refl _))
    rw [← hw2, hz1] at this; exact this
  have HAW : Hid (l ≠ [] → ∀ b off, A = some ⟨b, off, none⟩ → b < w.heap.size) := hide (fun hl b off e => by
    rcases ha.reads with h0 | ⟨b', off', e', hlt, _⟩
    · exact absurd h0 hl
    · rw [e] at e'
      injection e' with e'
      injection e' with e1
      omega)
  have HRES := hide hres
  have HRD := hide hrd
  have HB2 := hide (hb1.trans (hb2.mono hb1.size))
  clear ha hb1 hb2 hres hrd
  go_enter Tryz.func121, Tryz.ntmps121
  go_upto_region 2 with fail
  rw [← hw1, ← hw2]
  clear hw1 hw2 hz1
  have h8 : (Rc.head1 l).1 < 18446744073709551616 := Rc.fixed_lt l start 8
  have hF1 : Calls Tryz.prog _ _ _ _ := rfixed_any w2 A cap (w.heap.size + 1) l start 8 (by omega) (by omega) HRD.out (by omega)
  change Calls Tryz.prog _ _ _ (fun e w' => e = .returned (.int .u64 (Rc.head1 l).1) ∧ RRd w' A cap (w.heap.size + 1) l (Rc.head1 l).2 ∧ But (w.heap.size + 1) w2 w') at hF1
  have HF1 := hide hF1
  have hwr := Rc.toI_wrap _ h8
  have HU1 := hide h8
  clear hF1 h8
  generalize hh1 : Rc.head1 l = h1 at *
  obtain ⟨u1, s1⟩ := h1
  simp only at HF1 hwr HU1
  go_upto_region 3 with fail
  refine HF1.out.mono ?_
  rintro e w3 ⟨rfl, hr3, hb3⟩
  have hF2 : Calls Tryz.prog _ _ _ _ := rfixed_any w3 A cap (w.heap.size + 1) l s1 4 (by omega) (by omega) hr3 (by omega)
  rw [show Vi.fixed l s1 4 = Rc.head2 l from by unfold Rc.head2; rw [hh1]] at hF2
  have HF2 := hide hF2
  have h4 : (Rc.head2 l).1 < 4294967296 := Rc.fixed_lt l (Rc.head1 l).2 4
  have HB3 := hide hb3
  clear hF2 hr3 hb3 HF1 HRD
  generalize hh2 : Rc.head2 l = h2 at *
  obtain ⟨u2, s2⟩ := h2
  simp only at HF2 h4
  go_upto_region 3 with fail
  refine HF2.out.mono ?_
  rintro e w4 ⟨rfl, hr4, hb4⟩
  have HRD := hide hr4
  have HB4 := hide (HB3.out.trans hb4)
  clear hr4 hb4 HB3 HF2
  go_upto_region 3 with fail
  have hpst : PSt w (w4.alloc (.cells #[.int .i64 (Rc.toI u1), .int .i64 u2, .slice none 0 0] 41)) A cap (w.heap.size + 1) w.heap.size l s2 w4.heap.size (w4.heap.size + 1) (Rc.toI u1) u2 (.slice none 0 0) [] := by
    have hb4 := HB4.out
    have hz4 := hb4.size
    have hba : Below w4.heap.size w4 (w4.alloc (.cells #[.int .i64 (Rc.toI u1), .int .i64 u2, .slice none 0 0] 41)) := balloc (Below.refl _ _) _
    have hbw : Below w.heap.size w w4 := HB2.out.grown hb4.grown HB2.out.size (fun k e => by injection e with e; omega)
    exact ⟨HRD.out.below hba, Bld.new hbw _ _ _, (HRES.out.grown hb4.grown (by omega) (by simp)).below hba (by omega), Nat.le_refl _, by omega, by omega, HAW.out⟩
  have HST := hide hpst
  obtain ⟨B, hB⟩ : ∃ B, B = w4.heap.size := ⟨_, rfl⟩
  rw [← hB] at HST ⊢
  clear hpst HRD HRES HAW HB4 HB2 hz2 hB
  generalize w4.alloc (.cells #[.int .i64 (Rc.toI u1), .int .i64 u2, .slice none 0 0] 41) = w5 at *
  have hF3 : Calls Tryz.prog _ _ _ _ := rfixed_any w5 A cap (w.heap.size + 1) l s2 2 (by omega) (by omega) HST.out.rd (by omega)
  rw [show Vi.fixed l s2 2 = Rc.head3 l from by unfold Rc.head3; rw [hh2]] at hF3
  have HF3 := hide hF3
  have h2b : (Rc.head3 l).1 < 65536 := Rc.fixed_lt l (Rc.head2 l).2 2
  clear hF3
  generalize hh3 : Rc.head3 l = h3 at *
  obtain ⟨u3, s3⟩ := h3
  simp only at HF3 h2b
  go_upto_region 4 with fail
  refine HF3.out.mono ?_
  rintro e w6 ⟨rfl, hr6, hb6⟩
  have HST6 := hide (HST.out.reader hr6 hb6)
  clear hr6 hb6 HST HF3
  have hF4 : Calls Tryz.prog _ _ _ _ := rint_any w6 A cap (w.heap.size + 1) l s3 (-4611686018427387904) 4611686018427387904 HST6.out.rd (by omega)
  rw [show Vi.int l s3 (-4611686018427387904) 4611686018427387904 = Rc.rhead4 l from by unfold Rc.rhead4; rw [hh3]] at hF4
  have hi4 : -4611686018427387904 ≤ (Rc.rhead4 l).1 ∧ (Rc.rhead4 l).1 ≤ 4611686018427387904 := Rc.int_bd l (Rc.head3 l).2 4611686018427387904 (by omega)
  have HF4 := hide hF4
  clear hF4
  generalize hh4 : Rc.rhead4 l = h4' at *
  obtain ⟨t4, s4⟩ := h4'
  simp only at HF4 hi4
  go_upto_region 4 with fail
  go_upto_region 5 with fail
  refine HF4.out.mono ?_
  rintro e w8 ⟨rfl, hr8, hb8⟩
  have HST8 := hide (HST6.out.reader hr8 hb8)
  clear hr8 hb8 HST6 HF4
  have HT : Hid (Rc.rtail l = Rc.rloop l u3 u3 s4 t4 []) := by
    show _ = _
    unfold Rc.rtail
    rw [hh3, hh4]
  have HPA : Hid (Rc.rfine l = decide ((Rc.rtail l).2.code = 0 ∧ l.length ≤ (Rc.rtail l).2.at_ ∧ (Rc.rtail l).1.length = u3) ∧ Rc.rparse l = if Rc.rfine l = true then ⟨Rc.toI u1, u2, (Rc.rtail l).1⟩ else ⟨0, 0, []⟩) := by
    show _ ∧ _
    refine ⟨?_, ?_⟩
    · unfold Rc.rfine; rw [hh3]
    · unfold Rc.rparse; rw [hh1, hh2]
  have HLL := hide hl
  clear hh1 hh2 hh3 hh4 hwr
  go_upto_block 0 with fail
  go_cut [6, 7] (fun _ _ wx => ∃ v qs s, PSt w wx A cap (w.heap.size + 1) w.heap.size l s B (B + 1) (Rc.toI u1) u2 v qs ∧ (qs.map (·.r), s) = Rc.rtail l ∧ qs.length ≤ 65)
  case first =>
    go_wp2_with fail
    go_loopw [6, 7] (fun tv iv wr => ∃ (s : Vi.Rs) (ti : Int) (v : Value) (qs : List PRec), tv = .int .i64 ti ∧ iv = .int .i64 qs.length ∧ PSt w wr A cap (w.heap.size + 1) w.heap.size l s B (B + 1) (Rc.toI u1) u2 v qs ∧ qs.length ≤ u3 ∧ qs.length ≤ 65 ∧
      Rc.rloop l u3 (u3 - qs.length) s ti (qs.map (·.r)) = Rc.rtail l ∧ -4611686018427387904 - 1125899906842624 * (qs.length : Int) ≤ ti ∧ ti ≤ 4611686018427387904 + 1125899906842624 * (qs.length : Int)) (fun _ i _ => u3 - (intOf i).toNat)
    case atStart => exact ⟨s4, t4, _, [], rfl, rfl, HST8.out, Nat.zero_le _, Nat.zero_le _, HT.out.symm, by simp; omega, by simp; omega⟩
    case round =>
      obtain ⟨s, ti, v, qs, rfl, rfl, hst, hqn, hq65, hloop, hti1, hti2⟩ := hrel
      have HSTK := hide hst
      have HLP := hide hloop
      have c2 := hst.bl.c2
      have f2 := hst.bl.f 2
      obtain ⟨Av, cv, rfl, -, -, -⟩ := hst.bl.row.val
      by_cases hlt : qs.length < u3
      · by_cases h64 : qs.length ≤ 64
        · by_cases hc : s.code = 0
          · have HFI := hide (fine_any wr A cap (w.heap.size + 1) l s true hst.rd (by simp [hc]))
            have hlo := Rc.rloop_on l u3 s ti (qs.map (·.r)) (by simpa using hlt) (by simpa using h64) hc
            have HLO := hide hlo
            have HRI := hide (rint_any wr A cap (w.heap.size + 1) l s (-1125899906842624) 1125899906842624 hst.rd (by omega))
            have hx1 : (Rc.rstep l s ti) = (⟨ti + (Vi.int l s (-1125899906842624) 1125899906842624).1, (Vi.text l (Vi.int l s (-1125899906842624) 1125899906842624).2 64).1, (Vi.text l (Vi.text l (Vi.int l s (-1125899906842624) 1125899906842624).2 64).2 512).1⟩, (Vi.text l (Vi.text l (Vi.int l s (-1125899906842624) 1125899906842624).2 64).2 512).2) := rfl
            have hbd := Rc.int_bd l s 1125899906842624 (by omega)
            have HX1 := hide hx1
            clear hst hloop hlo hx1
            generalize Vi.int l s (-1125899906842624) 1125899906842624 = I at *
            obtain ⟨d, si⟩ := I
            simp only at HRI hbd HX1
            go_upto_region 8 with fail
            refine HFI.out.mono ?_
            rintro e w9 ⟨rfl, rfl⟩
            go_upto_region 8 with fail
            go_upto_region 9 with fail
            refine HRI.out.mono ?_
            rintro e wa ⟨rfl, hra, hba⟩
            have HSA := hide (HSTK.out.reader hra hba)
            clear hra hba HRI HSTK HFI c2 f2
            go_upto_region 9 with fail
            have HTK := hide (fun (W : World) (hb : Below wa.heap.size wa W) => rtext_any W A cap (w.heap.size + 1) l si 64 (by omega) (by omega) (HSA.out.rd.below hb) (by have := HLL.out; omega))
            rw [show ((64 : Int)).toNat = 64 from rfl] at HTK
            generalize Vi.text l si 64 = TK at *
            obtain ⟨ky, sk⟩ := TK
            simp only at HTK HX1
            have HTV := hide (fun (W : World) (hr : RRd W A cap (w.heap.size + 1) l sk) => rtext_any W A cap (w.heap.size + 1) l sk 512 (by omega) (by omega) hr (by have := HLL.out; omega))
            rw [show ((512 : Int)).toNat = 512 from rfl] at HTV
            generalize Vi.text l sk 512 = TV at *
            obtain ⟨vl, sv⟩ := TV
            simp only at HTV HX1
            have c2 := HSA.out.bl.c2
            have f2 := HSA.out.bl.f 2
            have HLT := hide HSA.out.lts
            have hzB : B < wa.heap.size := by have := HSA.out.lts; omega
            have hgB : ¬ B = w.heap.size + 1 := by have := HSA.out.lts; omega
            have HOWN := hide (fun b (e : (Value.slice Av qs.length cv).ownBlock = some b) => HSA.out.bl.row.own.lt b e)
            go_region_law
              (first
                | (go_simp; go_at_call 141; (with_reducible refine (HTK.out _ (Below.refl _ _).drew).mono ?_); rintro e w7 ⟨vk, rfl, ⟨Ak, ck, rfl, hak, hfk⟩, hr7, hb7⟩; have hk7 : w7.cell? ⟨B, 2, none⟩ = some (.slice Av qs.length cv) := (hb7.cell (b := B) (o := 2) hzB hgB).trans c2)
                | (go_simp; go_at_call 141; (with_reducible refine (HTV.out _ hr7).mono ?_); rintro e w8 ⟨vv, rfl, ⟨Ax, cx, rfl, hax, hfx⟩, hr8, hb8⟩; have hk8 : w8.cell? ⟨B, 2, none⟩ = some (.slice Av qs.length cv) := (hb8.cell (b := B) (o := 2) (Nat.lt_of_lt_of_le hzB hb7.size) hgB).trans hk7; have hka8 : (w8.alloc (.cells #[.int .i64 (ti + d), .slice Ak ky.length ck, .slice Ax vl.length cx] 81)).cell? ⟨B, 2, none⟩ = some (.slice Av qs.length cv) := (World.cell?_alloc_lt _ _ _ (Nat.lt_of_lt_of_le (Nat.lt_of_lt_of_le hzB hb7.size) hb8.size)).trans hk8)
                | (have _t := hr8; have h8 := ((HSA.out.quiet (Below.refl _ _).drew).reader hr7 hb7).reader hr8 hb8; refine step_push (.tmp 42) (.tmp 49) (by rfl) (B + 1) (.slice Av qs.length cv) qs ⟨⟨ti + d, ky, vl⟩, Ak, ck, Ax, cx⟩ (by rfl) (h8.bl.row.own.alloc _) ⟨w8.heap.size, 0, none⟩ (by rfl) (cells_three _ _ _ _ _) (by omega) (by have := h8.lts; simp; omega) ?_; intro v9 w9 hown9 hg9 hv9; obtain ⟨g9, c9, rfl⟩ := row_succ hown9; have hal : Below w8.heap.size w8 (w8.alloc (.cells #[.int .i64 (ti + d), .slice Ak ky.length ck, .slice Ax vl.length cx] 81)) := balloc (Below.refl _ _) _; have ymid := h8.bl.mid hal hg9; have hk9 := ymid.1; have hf9 := ymid.2)
                | fail)
            all_goals
              have hz7 : wa.heap.size ≤ w7.heap.size := hb7.size
              have hlts := HLT.out
              have htk : Txt w7 (B + 1) (.slice Av qs.length cv) Ak ck ky := ⟨hak, fun _ b off e => ⟨by have h : wa.heap.size ≤ b := (hfk b off e).1; omega, fun e' => by have := (HOWN.out b e').2; have h : wa.heap.size ≤ b := (hfk b off e).1; omega⟩⟩
              have htv : Txt w8 (B + 1) (.slice Av qs.length cv) Ax cx vl := ⟨hax, fun _ b off e => ⟨by have h := (hfx b off e).1; omega, fun e' => by have := (HOWN.out b e').2; have h := (hfx b off e).1; omega⟩⟩
              have HPUSH := hide (h8.push (q := ⟨⟨ti + d, ky, vl⟩, Ak, ck, Ax, cx⟩) (htk.keep hb8.grown (by omega)) htv hal hg9 hv9 hown9)
              clear htk htv hal hg9 hv9 hown9 h8 hr7 hr8 hb7 hb8 hk7 hk8 hka8 hk9 hf9 ymid hak hax hfk hfx c2 f2 HOWN HTK HTV HSA
              have hqi : IntKind.i64.wrap ((qs.length : Int) + 1) = ((qs.length + 1 : Nat) : Int) := by rw [IntKind.wrap_i64]; omega
              go_wp2_with fail
              refine ⟨⟨sv, ti + d, _, qs ++ [⟨⟨ti + d, ky, vl⟩, Ak, ck, Ax, cx⟩], rfl, by simp, HPUSH.out, by simp; omega, by simp; omega, ?_, by simp; omega, by simp; omega⟩, by simp [intOf]; omega⟩
              have h := HLO.out
              rw [HX1.out] at h
              have h2 := HLP.out
              simp only [List.length_map, List.length_append, List.length_cons, List.length_nil] at h h2
              rw [List.map_append, List.length_append, ← h2, h]
              rfl
          · have HFI := hide (fine_any wr A cap (w.heap.size + 1) l s false hst.rd (by simp [hc]))
            have HLE := hide (Rc.rloop_end l u3 s ti (qs.map (·.r)) (fun h => hc h.2.2))
            clear hst hloop c2 f2
            go_upto_region 8 with fail
            refine HFI.out.mono ?_
            rintro e w9 ⟨rfl, rfl⟩
            go_wp2_with fail
            go_meet
            refine ⟨_, qs, s, HSTK.out, ?_, by omega⟩
            have h := HLE.out
            have h2 := HLP.out
            simp only [List.length_map] at h
            rw [← h2, h]
        · have HLE := hide (Rc.rloop_end l u3 s ti (qs.map (·.r)) (fun h => h64 (by simpa using h.2.1)))
          clear hst hloop c2 f2
          go_wp2_with fail
          go_meet
          refine ⟨_, qs, s, HSTK.out, ?_, by omega⟩
          have h := HLE.out
          have h2 := HLP.out
          simp only [List.length_map] at h
          rw [← h2, h]
      · have HLE := hide (Rc.rloop_end l u3 s ti (qs.map (·.r)) (fun h => hlt (by simpa using h.1)))
        clear hst hloop c2 f2
        go_wp2_with fail
        go_meet
        refine ⟨_, qs, s, HSTK.out, ?_, by omega⟩
        have h := HLE.out
        have h2 := HLP.out
        simp only [List.length_map] at h
        rw [← h2, h]
  case rest =>
    obtain ⟨v, qs, s, hst, htl, hq65⟩ := hcut
    have HSTK := hide hst
    obtain ⟨Av, cv, rfl, hqc, hqm, hrecs⟩ := hst.bl.row.val
    have b0 := hst.bl.c0
    have b1 := hst.bl.c1
    have b2 := hst.bl.c2
    have e0 := hst.res.c0
    have e1 := hst.res.c1
    have e2 := hst.res.c2
    have f0 := hst.res.f 0
    have f1 := hst.res.f 1
    have f2 := hst.res.f 2
    have d1 := hst.rd.c1
    have hlts := hst.lts
    have hat := hst.rd.ok.le
    have HR := hide (fun x0 x1 x2 => Res.set hst.bl.below (Nat.le_refl _) x0 x1 x2)
    have HC := hide (fun x0 x1 x2 => hst.res.cells x0 x1 x2)
    have HFI := hide (fun b hb => fine_any wc A cap (w.heap.size + 1) l s b hst.rd hb)
    have HFN : Hid (Rc.rfine l = decide (s.code = 0 ∧ l.length ≤ s.at_ ∧ qs.length = u3)) := by
      show _ = _
      rw [HPA.out.1, ← htl]
      simp
    have HPR : Hid (Rc.rparse l = if Rc.rfine l = true then ⟨Rc.toI u1, u2, qs.map (·.r)⟩ else ⟨0, 0, []⟩) := by
      show _ = _
      rw [HPA.out.2, ← htl]
    clear hst htl hrecs HPA HT HST8
    by_cases hok : s.code = 0 ∧ l.length ≤ s.at_ ∧ qs.length = u3
    · obtain ⟨k1, k2, k3⟩ := hok
      have HPX : Hid (Rc.rparse l = ⟨Rc.toI u1, u2, qs.map (·.r)⟩) := by
        show _ = _
        rw [HPR.out, HFN.out, if_pos (decide_eq_true ⟨k1, k2, k3⟩)]
      have HF := hide (HFI.out true (by simp [k1]))
      have hlt1 : decide ((s.at_ : Int) < (l.length : Int)) = false := by simp; omega
      have hne1 : ((qs.length : Int) != (u3 : Int)) = false := by simp; omega
      clear HFI HFN HPR k1 k3
      go_wp2_with fail
      refine HF.out.mono ?_
      rintro e w9 ⟨rfl, rfl⟩
      go_wp2_with fail
      obtain ⟨s0, s1', s2'⟩ := HC.out (.int .i64 (Rc.toI u1)) (.int .i64 u2) (.slice Av qs.length cv)
      have hrow := ((HSTK.out.bl.row.keep (grown_set _ w.heap.size 0 (.int .i64 (Rc.toI u1))) (by omega)).keep (grown_set _ w.heap.size 1 (.int .i64 (u2 : Int))) (by omega)).keep (grown_set _ w.heap.size 2 (.slice Av qs.length cv)) (by omega)
      refine bodyPost_ret (v := batV (Rc.toI u1) u2 Av qs.length cv) (by simp [results, Tryz.results121, go_sem, s0, s1', s2']) rfl ?_
      rw [HPX.out]
      exact ⟨Av, cv, by simp, (hrow.newBat (Rc.toI u1) u2 (Rc.toI_bd u1 (by have := HU1.out; omega)) (by omega)).mono (by omega), HR.out _ _ _⟩
    · have HPX : Hid (Rc.rparse l = ⟨0, 0, []⟩) := by
        show _ = _
        rw [HPR.out, HFN.out, if_neg (by simpa using hok)]
      by_cases hc : s.code = 0
      · have HF := hide (HFI.out true (by simp [hc]))
        by_cases hle : s.at_ < l.length
        · have hlt1 : decide ((s.at_ : Int) < (l.length : Int)) = true := by simp; omega
          clear HFI HFN HPR hok hc
          go_wp2_with fail
          refine HF.out.mono ?_
          rintro e w9 ⟨rfl, rfl⟩
          go_wp2_with fail
          obtain ⟨s0, s1', s2'⟩ := HC.out (.int .i64 0) (.int .i64 0) (.slice none 0 0)
          refine bodyPost_ret (v := batV 0 0 none 0 0) (by simp [results, Tryz.results121, go_sem, s0, s1', s2']) rfl ?_
          rw [HPX.out]
          exact ⟨none, 0, rfl, NewBat.empty _ _, HR.out _ _ _⟩
        · have hlt1 : decide ((s.at_ : Int) < (l.length : Int)) = false := by simp; omega
          have hne1 : ((qs.length : Int) != (u3 : Int)) = true := by simp; omega
          clear HFI HFN HPR hok hc
          go_wp2_with fail
          refine HF.out.mono ?_
          rintro e w9 ⟨rfl, rfl⟩
          go_wp2_with fail
          obtain ⟨s0, s1', s2'⟩ := HC.out (.int .i64 0) (.int .i64 0) (.slice none 0 0)
          refine bodyPost_ret (v := batV 0 0 none 0 0) (by simp [results, Tryz.results121, go_sem, s0, s1', s2']) rfl ?_
          rw [HPX.out]
          exact ⟨none, 0, rfl, NewBat.empty _ _, HR.out _ _ _⟩
      · have HF := hide (HFI.out false (by simp [hc]))
        clear HFI HFN HPR hok hc
        go_wp2_with fail
        refine HF.out.mono ?_
        rintro e w9 ⟨rfl, rfl⟩
        go_wp2_with fail
        obtain ⟨s0, s1', s2'⟩ := HC.out (.int .i64 0) (.int .i64 0) (.slice none 0 0)
        refine bodyPost_ret (v := batV 0 0 none 0 0) (by simp [results, Tryz.results121, go_sem, s0, s1', s2']) rfl ?_
        rw [HPX.out]
        exact ⟨none, 0, rfl, NewBat.empty _ _, HR.out _ _ _⟩
end Go.Proofs.YtfdppggdgdnnaaaGreatDoor

namespace Go.Proofs.YtfdppggdgdnnaaaGreatDoor
open Go.RowKit Crc

/-- What the reference's Read gives. -/
def RRead (l : List UInt8) (w : World) (e : Ending) (w' : World) : Prop :=
  (∃ val, e = .returned (.tuple #[val, .int .i64 (Rc.rsize l : Nat), .int .i64 (Rc.rcode l : Nat)]) ∧ (Rc.rcode l = 0 → ∃ A c, val = batV (Rc.parse (Rc.rbody l)).base (Rc.parse (Rc.rbody l)).epoch A (Rc.parse (Rc.rbody l)).recs.length c ∧ NewBat w.heap.size w' A c (Rc.parse (Rc.rbody l))) ∧ (Rc.rcode l ≠ 0 → val = batV 0 0 none 0 0)) ∧ Below w.heap.size w w'
theorem RRead.no {l : List UInt8} {w w' : World} {c : Nat} (h : Rc.rcode l = c) (h0 : c ≠ 0) (hb : Below w.heap.size w w') : RRead l w (.returned (.tuple #[batV 0 0 none 0 0, .int .i64 0, .int .i64 c])) w' := by
  have hs : Rc.rsize l = 0 := by unfold Rc.rsize; rw [if_neg (by omega)]
  exact ⟨⟨batV 0 0 none 0 0, by rw [hs, h]; rfl, fun h' => absurd (h.symm.trans h') h0, fun _ => rfl⟩, hb⟩
theorem RRead.yes {l : List UInt8} {w w' : World} {A : Option Addr} {c : Nat} (h : Rc.rcode l = 0) (hi : NewBat w.heap.size w' A c (Rc.parse (Rc.rbody l))) (hb : Below w.heap.size w w') : RRead l w (.returned (.tuple #[batV (Rc.parse (Rc.rbody l)).base (Rc.parse (Rc.rbody l)).epoch A (Rc.parse (Rc.rbody l)).recs.length c, .int .i64 (8 + (Rc.rn l : Int)), .int .i64 0])) w' := by
  have hs : Rc.rsize l = 8 + Rc.rn l := by unfold Rc.rsize; rw [if_pos h]
  exact ⟨⟨batV (Rc.parse (Rc.rbody l)).base (Rc.parse (Rc.rbody l)).epoch A (Rc.parse (Rc.rbody l)).recs.length c, by rw [hs, h]; rfl, fun _ => ⟨A, c, rfl, hi⟩, fun h' => absurd h h'⟩, hb⟩

namespace Rc
/-- The head is what the sum and the length of the rest say: so a batch has these bytes just if its body is the rest. -/
theorem bytes_eq (l : List UInt8) (b : Bat) (h8 : 8 ≤ l.length) (hn : rn l ≤ l.length - 8) (hs : sumN (rbody l) = rsum l) : bytes b = l.take (8 + rn l) ↔ body b = rbody l := by
  have hbl : (rbody l).length = rn l := by unfold rbody; rw [List.length_take, List.length_drop]; omega
  have e4 : le 4 (rn l) = l.take 4 := by
    have h := Vi.le_little (l.take 4)
    rw [show (l.take 4).length = 4 by rw [List.length_take]; omega] at h; exact h
  have e5 : le 4 (rsum l) = (l.drop 4).take 4 := by
    have h := Vi.le_little ((l.drop 4).take 4)
    rw [show ((l.drop 4).take 4).length = 4 by rw [List.length_take, List.length_drop]; omega] at h; exact h
  have hl : l.take (8 + rn l) = (le 4 (rn l) ++ le 4 (rsum l)) ++ rbody l := by
    rw [e4, e5]
    unfold rbody
    rw [List.take_add, show (8 : Nat) = 4 + 4 from rfl, List.take_add]
  constructor
  · intro h
    rw [hl] at h
    unfold bytes at h
    exact (List.append_inj h (by simp [le_len])).2
  · intro h
    rw [hl]
    unfold bytes
    rw [h, hbl, hs]
end Rc

set_option maxRecDepth 100000 in
set_option maxHeartbeats 2000000 in
theorem rread_any (A : Option Addr) (cap n : Nat) (l : List UInt8) (w : World) (hn : l.length = n) (hl : n ≤ 900000) (ha : Arg w A cap l) :
    Calls Tryz.prog 95 #[.slice A n cap] w (RRead l w) := by
  subst hn
  obtain ⟨w1, hw1⟩ : ∃ w1, w1 = w.alloc (.cells #[.int .i64 0, .int .i64 0, .slice none 0 0] 41) := ⟨_, rfl⟩
  have hb1 : Below w.heap.size w w1 := hw1 ▸ balloc (Below.refl _ _) _
  have hres : Res w1 w.heap.size := hw1 ▸ Res.new w 41
  have hz1 : w1.heap.size = w.heap.size + 1 := by rw [hw1]; simp
  have HA := hide (ha.below hb1 (Nat.le_refl _))
  have HB1 := hide hb1
  have HW1 := hide hw1
  clear ha hb1 hw1
  go_enter Tryz.func95, Tryz.ntmps95
  go_upto_region 1 with fail
  rw [← HW1.out]
  have HRES := hide hres
  have r0 := hres.c0
  have r1 := hres.c1
  have r2 := hres.c2
  have rf0 := hres.f 0
  have rf1 := hres.f 1
  have rf2 := hres.f 2
  clear HW1 hres
  by_cases h8 : l.length < 8
  · have HC : Hid (Rc.rcode l = 101) := by show _ = _; unfold Rc.rcode; rw [if_pos h8]
    go_wp2_with fail
    obtain ⟨s0, s1', s2'⟩ := HRES.out.cells (.int .i64 0) (.int .i64 0) (.slice none 0 0)
    have hset := Res.set HB1.out (Nat.le_refl _) (.int .i64 0) (.int .i64 0) (.slice none 0 0)
    refine bodyPost_ret (v := .tuple #[batV 0 0 none 0 0, .int .i64 0, .int .i64 101]) (by simp [results, Tryz.results95, go_sem, s0, s1', s2']) rfl (RRead.no (c := 101) HC.out (by decide) hset)
  · have hcap := HA.out.le
    have kcut : ∀ W, (Instr.sliceAt 32 (.slice A l.length cap) none (some (.int .i64 4)) none).run Tryz.prog W = .ok (.slice A 4 cap) W := fun W => run_cut_h W A l.length cap 4 (by omega)
    have HX1 := hide (refFixed_any A cap 4 (l.take 4) w1 (by rw [List.length_take]; omega) (by omega) (HA.out.first 4).reads)
    have e1 : Vi.little (l.take 4) = Rc.rn l := rfl
    rw [e1] at HX1
    have hn1 := Rc.rn_lt l
    have hn2 := Rc.rsum_lt l
    have HCODE : Hid (Rc.rcode l = if 65536 < Rc.rn l then 104 else if l.length - 8 < Rc.rn l then 101 else if Rc.sumN (Rc.rbody l) ≠ Rc.rsum l then 102 else if Rc.okay (Rc.rbody l) = true then 0 else 103) := by
      show _ = _
      unfold Rc.rcode
      rw [if_neg h8]
    have HBD : Hid (Rc.rbody l = (l.drop 8).take (Rc.rn l)) := hide rfl
    have HBE := hide (fun b => Rc.bytes_eq l b (by omega))
    have e2 : Vi.little ((l.drop 4).take 4) = Rc.rsum l := rfl
    have HX2 := hide (refFixed_any (cutA A cap 4) (cap - 4) 4 ((l.drop 4).take 4) w1 (by rw [List.length_take, List.length_drop]; omega) (by omega) ((HA.out.cut 4 (by omega)).first 4).reads)
    rw [e2] at HX2
    clear e1 e2
    generalize hrn : Rc.rn l = rn at *
    have HRN := hide hrn
    clear hrn
    generalize Rc.rsum l = rsum at *
    go_wp2_with fail
    refine HX1.out.mono ?_
    rintro e w3 ⟨rfl, rfl⟩
    clear HX1 kcut
    by_cases hm : 65536 < rn
    · have HC : Hid (Rc.rcode l = 104) := by show _ = _; rw [HCODE.out, if_pos hm]
      go_wp2_with fail
      obtain ⟨s0, s1', s2'⟩ := HRES.out.cells (.int .i64 0) (.int .i64 0) (.slice none 0 0)
      have hset := Res.set HB1.out (Nat.le_refl _) (.int .i64 0) (.int .i64 0) (.slice none 0 0)
      refine bodyPost_ret (v := .tuple #[batV 0 0 none 0 0, .int .i64 0, .int .i64 104]) (by simp [results, Tryz.results95, go_sem, s0, s1', s2']) rfl (RRead.no (c := 104) HC.out (by decide) hset)
    · by_cases he : l.length - 8 < rn
      · have HC : Hid (Rc.rcode l = 101) := by show _ = _; rw [HCODE.out, if_neg hm, if_pos he]
        have hd : (l.length : Int) - 8 < (rn : Int) := by omega
        go_wp2_with fail
        obtain ⟨s0, s1', s2'⟩ := HRES.out.cells (.int .i64 0) (.int .i64 0) (.slice none 0 0)
        have hset := Res.set HB1.out (Nat.le_refl _) (.int .i64 0) (.int .i64 0) (.slice none 0 0)
        refine bodyPost_ret (v := .tuple #[batV 0 0 none 0 0, .int .i64 0, .int .i64 101]) (by simp [results, Tryz.results95, go_sem, s0, s1', s2']) rfl (RRead.no (c := 101) HC.out (by decide) hset)
      · have hd : ¬ (l.length : Int) - 8 < (rn : Int) := by omega
        have kcut2 : ∀ W, (Instr.sliceAt 32 (.slice A l.length cap) (some (.int .i64 8)) (some (.int .i64 (8 + (rn : Int)))) none).run Tryz.prog W = .ok (.slice (cutA A cap 8) rn (cap - 8)) W := fun W => by
          have h := run_cut_lh W A l.length cap 8 (8 + rn) (by omega) (by omega)
          rw [show 8 + rn - 8 = rn by omega, Int.natCast_add] at h
          exact h
        have kcut3 : ∀ W, (Instr.sliceAt 32 (.slice A l.length cap) (some (.int .i64 4)) (some (.int .i64 8)) none).run Tryz.prog W = .ok (.slice (cutA A cap 4) 4 (cap - 4)) W := fun W => run_cut_lh W A l.length cap 4 8 (by omega) (by omega)
        have HAB := hide ((HA.out.cut 8 (by omega)).first rn)
        rw [← HBD.out] at HAB
        have HBL : Hid ((Rc.rbody l).length = rn) := by show _ = _; rw [HBD.out, List.length_take, List.length_drop]; omega
        have HCODE2 : Hid (Rc.rcode l = if Rc.sumN (Rc.rbody l) ≠ rsum then 102 else if Rc.okay (Rc.rbody l) = true then 0 else 103) := by
          show _ = _
          rw [HCODE.out, if_neg hm, if_neg he]
        have hsl := Rc.sumN_lt (Rc.rbody l)
        have HSU := hide (refSum_any (cutA A cap 8) (cap - 8) rn (Rc.rbody l) w1 HBL.out (by omega) HAB.out.reads)
        rw [show U (sum (Rc.rbody l)) = ((Rc.sumN (Rc.rbody l) : Nat) : Int) from rfl] at HSU
        have HPX := hide (rparse_any (cutA A cap 8) (cap - 8) rn (Rc.rbody l) w1 HBL.out (by omega) HAB.out)
        have HVD := hide (Rc.verdict (Rc.rbody l))
        clear HCODE
        generalize hbd : Rc.rbody l = bd at *
        have HEB := hide hbd
        clear hbd
        generalize cutA A cap 8 = A' at *
        generalize cutA A cap 4 = A4 at *
        generalize hsn : Rc.sumN bd = sn at *
        have hrs : IntKind.u32.wrap (rsum : Int) = (rsum : Int) := by rw [IntKind.wrap_u32]; omega
        have hsz : 8 + rn ≤ l.length := by omega
        by_cases hne : sn = rsum
        · subst hne
          have hdn : ((sn : Int) != sn) = false := by simp
          go_wp2_with fail
          refine HX2.out.mono ?_
          rintro e w4 ⟨rfl, rfl⟩
          go_wp2_with fail
          refine HSU.out.mono ?_
          rintro e w5 ⟨rfl, rfl⟩
          go_wp2_with fail
          refine HPX.out.mono ?_
          rintro e w6 ⟨Ar, cr, rfl, hib, hb6⟩
          go_upto_region 12 with fail
          obtain ⟨x0, x1, x2⟩ := made3 w6 (.int .i64 (Rc.rparse bd).base) (.int .i64 (Rc.rparse bd).epoch) (.slice Ar (Rc.rparse bd).recs.length cr) 41
          have hal : Below w6.heap.size w6 (w6.alloc (.cells #[.int .i64 (Rc.rparse bd).base, .int .i64 (Rc.rparse bd).epoch, .slice Ar (Rc.rparse bd).recs.length cr] 41)) := balloc (Below.refl _ _) _
          have hxz : w6.heap.size < (w6.alloc (.cells #[.int .i64 (Rc.rparse bd).base, .int .i64 (Rc.rparse bd).epoch, .slice Ar (Rc.rparse bd).recs.length cr] 41)).heap.size := by simp
          have hib7 := hib.above (Above.of_below hal)
          have HIB := hide hib7
          have HB7 := hide (hb6.trans (hal.mono hb6.size))
          have hz6 := hb6.size
          clear hib hb6 hal hib7 HPX HX2 HSU
          generalize Rc.rparse bd = x at *
          obtain ⟨X, hX⟩ : ∃ X, X = w6.heap.size := ⟨_, rfl⟩
          rw [← hX] at x0 x1 x2 hxz hz6 ⊢
          clear hX
          generalize w6.alloc (.cells #[.int .i64 x.base, .int .i64 x.epoch, .slice Ar x.recs.length cr] 41) = w7 at *
          have HV := hide (fun W (hb : Below w7.heap.size w7 W) => rvalid_any x Ar cr x.recs.length W (HIB.out.isBat.below hb (Nat.le_refl _)) rfl)
          by_cases hbad : Rc.bad x = 0
          · have g := (Rc.bad_good x).1 hbad
            have hblx := Rc.body_len x g
            have hbyl := Rc.bytes_len x
            have hg1 := g.n1
            have hbx : (Rc.bytes x).length ≤ 100000 := by omega
            clear hbyl hblx
            have HBT := hide (fun W (hb : Below w7.heap.size w7 W) => rbatch_any x Ar cr x.recs.length W (HIB.out.isBat.below hb (Nat.le_refl _)) g rfl)
            have HSB := hide (fun (W : World) (A9 : Option Addr) (c9 : Nat) (hr : Reads W A9 (Rc.bytes x)) (hb : Below w1.heap.size w1 W) => sameBytes_any A9 A c9 cap (Rc.bytes x).length (8 + rn) (Rc.bytes x) (l.take (8 + rn)) W rfl (by rw [List.length_take]; omega) (by omega) (by omega) hr ((HA.out.first (8 + rn)).below hb (Nat.le_refl _)).reads)
            rw [hbad] at HV
            obtain ⟨sb, hsb⟩ : ∃ sb, sb = decide (Rc.bytes x = l.take (8 + rn)) := ⟨_, rfl⟩
            rw [← hsb] at HSB
            have HSBD := hide hsb
            clear hsb
            have kcut4 : ∀ W, (Instr.sliceAt 32 (.slice A l.length cap) none (some (.int .i64 (8 + (rn : Int)))) none).run Tryz.prog W = .ok (.slice A (8 + rn) cap) W := fun W => run_cut_h W A l.length cap (8 + rn) (by omega)
            have hsum : IntKind.i64.wrap (8 + (rn : Int)) = 8 + (rn : Int) := by rw [IntKind.wrap_i64]; omega
            have hz7 := HB7.out.size
            go_region_held3 (fun w' => w'.cell? ⟨X, 0, none⟩ = some (.int .i64 x.base) ∧ w'.cell? ⟨X, 1, none⟩ = some (.int .i64 x.epoch) ∧ w'.cell? ⟨X, 2, none⟩ = some (.slice Ar x.recs.length cr)) (go_keep)
              (first
                | (go_at_call 33; (with_reducible refine (HV.out _ (Below.refl _ _).drew).mono ?_); rintro e w8 ⟨rfl, hb8⟩; have hb8' : Below w7.heap.size w7 w8 := (Below.refl w7.heap.size w7).drew.trans hb8; have hs8 : w8.cell? ⟨X, 0, none⟩ = some (.int .i64 x.base) ∧ w8.cell? ⟨X, 1, none⟩ = some (.int .i64 x.epoch) ∧ w8.cell? ⟨X, 2, none⟩ = some (.slice Ar x.recs.length cr) := ⟨(hb8.cell (p := ⟨X, 0, none⟩) hxz).trans x0, (hb8.cell (p := ⟨X, 1, none⟩) hxz).trans x1, (hb8.cell (p := ⟨X, 2, none⟩) hxz).trans x2⟩)
                | (go_at_call 15; (with_reducible refine (HBT.out _ hb8').mono ?_); rintro e w9 ⟨v9, rfl, ho9, hb9⟩; obtain ⟨A9, c9, rfl, ha9⟩ := ho9.arg; have hb9' : Below w1.heap.size w1 w9 := HB7.out.trans ((hb8'.trans (hb9.mono hb8'.size)).mono hz7); have hs9 : w9.cell? ⟨X, 0, none⟩ = some (.int .i64 x.base) ∧ w9.cell? ⟨X, 1, none⟩ = some (.int .i64 x.epoch) ∧ w9.cell? ⟨X, 2, none⟩ = some (.slice Ar x.recs.length cr) := ⟨(hb9.cell (p := ⟨X, 0, none⟩) (Nat.lt_of_lt_of_le hxz hb8.size)).trans hs8.1, (hb9.cell (p := ⟨X, 1, none⟩) (Nat.lt_of_lt_of_le hxz hb8.size)).trans hs8.2.1, (hb9.cell (p := ⟨X, 2, none⟩) (Nat.lt_of_lt_of_le hxz hb8.size)).trans hs8.2.2⟩)
                | (go_at_call 21; (with_reducible refine (HSB.out _ _ _ ha9.reads hb9').mono ?_); rintro e w10 ⟨rfl, q, rfl⟩; have hs10 : (w9.drewN q).cell? ⟨X, 0, none⟩ = some (.int .i64 x.base) ∧ (w9.drewN q).cell? ⟨X, 1, none⟩ = some (.int .i64 x.epoch) ∧ (w9.drewN q).cell? ⟨X, 2, none⟩ = some (.slice Ar x.recs.length cr) := hs9)
                | fail)
            have hb10 := below_drewN hb9' q
            have hz10 := hb10.size
            have HB10 := hide hb10
            have hres10 := HRES.out.below hb10 (by omega)
            have HRES10 := hide hres10
            have r0 := hres10.c0
            have r1 := hres10.c1
            have r2 := hres10.c2
            have rf0 := hres10.f 0
            have rf1 := hres10.f 1
            have rf2 := hres10.f 2
            have t0 := hs10.1
            have t1 := hs10.2.1
            have t2 := hs10.2.2
            have HIB10 := hide (HIB.out.above (Above.of_below (below_drewN (hb8'.trans (hb9.mono hb8'.size)) q)))
            have HW10 := hide (HB1.out.trans (hb10.mono (by omega)))
            clear hb8 hb9 hb8' hb9' hs8 hs9 hs10 ho9 ha9 HV HBT HSB kcut4 hsum HB7 HIB hres10 hb10 x0 x1 x2
            generalize w9.drewN q = w10 at *
            cases sb with
            | true =>
              have hbo : Rc.body x = bd := by
                have h1 : Rc.bytes x = l.take (8 + rn) := of_decide_eq_true HSBD.out.symm
                exact (HBE.out x (by omega) trivial).1 h1
              have hok := HVD.out.1.2 ⟨hbad, hbo⟩
              have HC : Hid (Rc.rcode l = 0) := by show _ = _; rw [HCODE2.out, if_neg (by simp), if_pos hok]
              have hpx := HVD.out.2 hok
              have HPX := hide hpx
              clear hpx hbo hok HVD
              go_wp2_with fail
              obtain ⟨s0, s1', s2'⟩ := HRES10.out.cells (.int .i64 x.base) (.int .i64 x.epoch) (.slice Ar x.recs.length cr)
              have hset := Res.set HW10.out (Nat.le_refl _) (.int .i64 x.base) (.int .i64 x.epoch) (.slice Ar x.recs.length cr)
              have hnb := ((HIB10.out.above (Above.of_grown (grown_set _ w.heap.size 0 (.int .i64 x.base)) (by omega))).above (Above.of_grown (grown_set _ w.heap.size 1 (.int .i64 x.epoch)) (by omega))).above (Above.of_grown (grown_set _ w.heap.size 2 (.slice Ar x.recs.length cr)) (by omega))
              have hpost := RRead.yes (l := l) HC.out (by rw [HEB.out, ← HPX.out]; exact hnb.mono (by omega)) hset
              rw [HEB.out, HRN.out, ← HPX.out] at hpost
              exact bodyPost_ret (v := .tuple #[batV x.base x.epoch Ar x.recs.length cr, .int .i64 (8 + (rn : Int)), .int .i64 0]) (by simp [results, Tryz.results95, go_sem, s0, s1', s2']) rfl hpost
            | false =>
              have hbo : ¬ Rc.body x = bd := fun e => by
                have h1 : ¬ Rc.bytes x = l.take (8 + rn) := of_decide_eq_false HSBD.out.symm
                exact h1 ((HBE.out x (by omega) trivial).2 e)
              have hok : ¬ Rc.okay bd = true := fun h => hbo (HVD.out.1.1 h).2
              have HC : Hid (Rc.rcode l = 103) := by show _ = _; rw [HCODE2.out, if_neg (by simp), if_neg hok]
              clear hbo hok HVD
              go_wp2_with fail
              obtain ⟨s0, s1', s2'⟩ := HRES10.out.cells (.int .i64 0) (.int .i64 0) (.slice none 0 0)
              have hset := Res.set HW10.out (Nat.le_refl _) (.int .i64 0) (.int .i64 0) (.slice none 0 0)
              refine bodyPost_ret (v := .tuple #[batV 0 0 none 0 0, .int .i64 0, .int .i64 103]) (by simp [results, Tryz.results95, go_sem, s0, s1', s2']) rfl (RRead.no (c := 103) HC.out (by decide) hset)
          · have hok : ¬ Rc.okay bd = true := fun h => hbad (HVD.out.1.1 h).1
            have HC : Hid (Rc.rcode l = 103) := by show _ = _; rw [HCODE2.out, if_neg (by simp), if_neg hok]
            have hz7 := HB7.out.size
            clear hok HVD
            have hbadn : ((Rc.bad x : Int) != 0) = true := by simp; omega
            generalize ((Rc.bad x : Nat) : Int) = bc at *
            have hz7' : w7.drew.heap.size = w7.heap.size := rfl
            refine wp_region_guard (G := Below w7.heap.size) ⟨fun w => Below.refl _ w, fun h k => h.trans k⟩ [39, 40, 41, 42, 43, 44, 45, 46, 47, 48, 49, 50, 51] (fun d => match d with
              | 39 => .is (batV x.base x.epoch Ar x.recs.length cr) | 40 => .is (.int .i64 bc) | 41 => .is (.bool true) | 42 => .is (.bool true) | 51 => .is (.bool true)
              | _ => .is undef) (by kernel_rfl) (by kernel_rfl) (by kernel_rfl) ?_ ?_
            · simp only [StepsG]
              refine ⟨?_, ?_, ?_, ?_, ?_, ?_, ?_, ?_, ?_, ?_, ?_, ?_, ?_, trivial⟩
              all_goals
                intro ev w1' hb hev hd
                have ev7 : ev (.tmp 7) = .pointer (some ⟨X, 0, none⟩) := hev _ (by simp)
                have evf : ∀ f, ev (.func f) = .func (.func f) #[] #[] := fun f => hev _ (by simp)
                have evc : ∀ c, ev (.const c) = c := fun c => hev _ (by simp)
                have y0 := (hb.cell (p := ⟨X, 0, none⟩) hxz).trans x0
                have y1 := (hb.cell (p := ⟨X, 1, none⟩) hxz).trans x1
                have y2 := (hb.cell (p := ⟨X, 2, none⟩) hxz).trans x2
                have HBW := hide hb
                clear hev hb
                simp [DepsG, Held.is] at hd
                try simp [OpGuard, OpRuns, execOp, go_sem, Held.is, Below.refl, *]
              exact (HV.out _ ((Below.refl w7.heap.size w7).drew.trans HBW.out)).mono fun e w'' ⟨he, hb8⟩ => ⟨he, hb8.mono HBW.out.size⟩
            · intro f w10 hb hf
              have e51 : f 51 = .bool true := hf 51 (by simp)
              have hb10 := HB7.out.trans ((((Below.refl w7.heap.size w7).drew.trans hb)).mono hz7)
              have hres10 := HRES.out.below hb10 (by omega)
              have HRES10 := hide hres10
              have r0 := hres10.c0
              have r1 := hres10.c1
              have r2 := hres10.c2
              have rf0 := hres10.f 0
              have rf1 := hres10.f 1
              have rf2 := hres10.f 2
              have HW10 := hide (HB1.out.trans (hb10.mono (by omega)))
              clear hb hf HV HB7 HIB hres10 hb10 x0 x1 x2 hbad
              simp only [puts, Act.put, List.setIfInBounds_toArray, List.set_cons_succ, List.set_cons_zero]
              rw [e51]
              clear e51
              generalize f 39 = y39
              generalize f 40 = y40
              generalize f 41 = y41
              generalize f 42 = y42
              generalize f 43 = y43
              generalize f 44 = y44
              generalize f 45 = y45
              generalize f 46 = y46
              generalize f 47 = y47
              generalize f 48 = y48
              generalize f 49 = y49
              generalize f 50 = y50
              clear f
              go_wp2_with fail
              obtain ⟨s0, s1', s2'⟩ := HRES10.out.cells (.int .i64 0) (.int .i64 0) (.slice none 0 0)
              have hset := Res.set HW10.out (Nat.le_refl _) (.int .i64 0) (.int .i64 0) (.slice none 0 0)
              refine bodyPost_ret (v := .tuple #[batV 0 0 none 0 0, .int .i64 0, .int .i64 103]) (by simp [results, Tryz.results95, go_sem, s0, s1', s2']) rfl (RRead.no (c := 103) HC.out (by decide) hset)
        · have hdn : ((rsum : Int) != (sn : Int)) = true := by simp; omega
          have HC : Hid (Rc.rcode l = 102) := by show _ = _; rw [HCODE2.out, if_pos hne]
          go_wp2_with fail
          refine HX2.out.mono ?_
          rintro e w4 ⟨rfl, rfl⟩
          go_wp2_with fail
          refine HSU.out.mono ?_
          rintro e w5 ⟨rfl, rfl⟩
          go_wp2_with fail
          obtain ⟨s0, s1', s2'⟩ := HRES.out.cells (.int .i64 0) (.int .i64 0) (.slice none 0 0)
          have hset := Res.set HB1.out (Nat.le_refl _) (.int .i64 0) (.int .i64 0) (.slice none 0 0)
          refine bodyPost_ret (v := .tuple #[batV 0 0 none 0 0, .int .i64 0, .int .i64 102]) (by simp [results, Tryz.results95, go_sem, s0, s1', s2']) rfl (RRead.no (c := 102) HC.out (by decide) hset)
end Go.Proofs.YtfdppggdgdnnaaaGreatDoor

namespace Go.Proofs.YtfdppggdgdnnaaaGreatDoor
open Go.RowKit Crc

/-- What the reference's All gives. -/
def RAll (l : List UInt8) (w : World) (e : Ending) (w' : World) : Prop :=
  (∃ A c, e = .returned (.tuple #[.slice A (Rc.all l).1.length c, .int .i64 ((Rc.all l).2.1 : Nat), .int .i64 ((Rc.all l).2.2 : Nat)]) ∧ (Rc.all l).1.length ≤ c ∧ c ≤ 9223372036854775807 ∧ Bats w' A (Rc.all l).1) ∧ Below w.heap.size w w'
set_option maxRecDepth 100000 in
set_option maxHeartbeats 2000000 in
theorem rall_any (A : Option Addr) (cap n : Nat) (l : List UInt8) (w : World) (hn : l.length = n) (hl : n ≤ 900000) (ha : Arg w A cap l) :
    Calls Tryz.prog 45 #[.slice A n cap] w (RAll l w) := by
  subst hn
  have HA := hide ha
  have HL := hide hl
  clear ha
  go_enter Tryz.func45, Tryz.ntmps45
  go_wp2_with fail
  go_loopw [5, 6] (fun v i wr => ∃ (at_ : Nat) (qs : List PBat), i = .int .i64 at_ ∧ at_ ≤ l.length ∧ BRow wr w.heap.size v qs ∧ qs.length ≤ at_ ∧ Below w.heap.size w wr ∧ Rc.allGo l (l.length - at_) at_ (qs.map (·.b)) = Rc.all l) (fun _ i _ => l.length - (intOf i).toNat)
  case atStart => exact ⟨0, [], rfl, Nat.zero_le _, BRow.nil _ _, by simp, Below.refl _ _, rfl⟩
  case round =>
    obtain ⟨at_, qs, rfl, hat, hrow, hqa, hb, hgo⟩ := hrel
    have HRW := hide hrow
    have HBK := hide hb
    have HGO := hide hgo
    have hl' := hl
    clear hgo hb
    by_cases hlt : at_ < l.length
    · have kcut : ∀ W, (Instr.sliceAt 32 (.slice A l.length cap) (some (.int .i64 (at_ : Int))) none none).run Tryz.prog W = .ok (.slice (cutA A cap at_) (l.length - at_) (cap - at_)) W := fun W => run_cut_l W A l.length cap at_ hat
      have HRD := hide (rread_any (cutA A cap at_) (cap - at_) (l.length - at_) (l.drop at_) wr (by rw [List.length_drop]) (by omega) ((HA.out.below HBK.out (Nat.le_refl _)).cut at_ hat))
      have HSTEP : Hid (Rc.all l = if Rc.rcode (l.drop at_) = 0 then Rc.allGo l (l.length - at_ - 1) (at_ + Rc.rsize (l.drop at_)) (qs.map (·.b) ++ [Rc.parse (Rc.rbody (l.drop at_))]) else (qs.map (·.b), at_, Rc.rcode (l.drop at_))) := by
        show _ = _
        rw [← HGO.out, show l.length - at_ = (l.length - at_ - 1) + 1 by omega, Rc.allGo, if_pos hlt]
        rfl
      have HRS := hide (Rc.rsize_le (l.drop at_))
      generalize hA' : cutA A cap at_ = A' at *
      clear hA' hrow
      obtain ⟨Av, cv, rfl, hqc, hqm, hbats⟩ := HRW.out.val
      by_cases hc : Rc.rcode (l.drop at_) = 0
      · have hrs := HRS.out hc
        rw [List.length_drop] at hrs
        have HALL : Hid (Rc.allGo l (l.length - (at_ + Rc.rsize (l.drop at_))) (at_ + Rc.rsize (l.drop at_)) (qs.map (·.b) ++ [Rc.parse (Rc.rbody (l.drop at_))]) = Rc.all l) := by
          show _ = _
          rw [HSTEP.out, if_pos hc]
          exact Rc.allGo_fuel _ _ _ _ _ (by omega) (by omega)
        unfold RRead at HRD
        have hcc := hide hc
        rw [hc] at HRD
        clear HSTEP HRS
        generalize Rc.rsize (l.drop at_) = rs at *
        generalize Rc.parse (Rc.rbody (l.drop at_)) = nb at *
        clear hc
        go_wp2_with fail
        refine HRD.out.mono ?_
        rintro e w3 ⟨⟨val, rfl, hy, -⟩, hb3⟩
        obtain ⟨An, cn, rfl, hnew⟩ := hy trivial
        have HNEW := hide hnew
        have hz3 := hb3.size
        clear hy hnew HRD kcut
        go_upto_region 5 with fail
        obtain ⟨k0, k1, k2⟩ := made3 w3 (.int .i64 nb.base) (.int .i64 nb.epoch) (.slice An nb.recs.length cn) 41
        have hal : Below w3.heap.size w3 (w3.alloc (.cells #[.int .i64 nb.base, .int .i64 nb.epoch, .slice An nb.recs.length cn] 41)) := balloc (Below.refl _ _) _
        have HR4 := hide ((HRW.out.below hb3).below hal)
        have HB4 := hide (HBK.out.trans ((hb3.trans (hal.mono hz3)).mono HBK.out.size))
        have HAB4 := hide (Above.of_below (lo := wr.heap.size) hal)
        have hlt4 : w3.heap.size < (w3.alloc (.cells #[.int .i64 nb.base, .int .i64 nb.epoch, .slice An nb.recs.length cn] 41)).heap.size := by simp
        obtain ⟨gb, hgb⟩ : ∃ gb, gb = w3.heap.size := ⟨_, rfl⟩
        rw [← hgb] at k0 k1 k2 ⊢
        have HZ4 := hide (show wr.heap.size ≤ (w3.alloc (.cells #[.int .i64 nb.base, .int .i64 nb.epoch, .slice An nb.recs.length cn] 41)).heap.size by omega)
        clear hal hgb hb3 hlt4
        generalize w3.alloc (.cells #[.int .i64 nb.base, .int .i64 nb.epoch, .slice An nb.recs.length cn] 41) = w4 at *
        obtain ⟨i0, hi, hz, hs1, hby⟩ := info_parts batch_info
        have HBAL : Hid (Below w4.heap.size w4 (w4.alloc (.cells #[.int .i64 nb.base, .int .i64 nb.epoch, .slice An nb.recs.length cn] 41))) := hide (balloc (Below.refl _ _) _)
        go_wp2_with (at_builtin; refine wpList_append_own_at (w := w4.alloc _) rfl (.tmp 27) (.tmp 29) 26 rfl w.heap.size 41 i0 _ 3 40 Tryz.underlying26 hi hz hs1 hby rfl (by omega) (.slice Av qs.length cv) qs.length (qs.flatMap PBat.cells) rfl (HR4.out.own.alloc _) ⟨w4.heap.size, 0, none⟩ 1 1 (PBat.cells ⟨nb, An, cn⟩) rfl rfl (cells_three _ _ _ _ _) (PBat.cells_one _) (by simp only [maxLen]; omega) (by omega) (by have := HB4.out.size; simp; omega) ?_; intro v5 w5 hown5 hg5 hnil5 hat5; have HROW5 := hide (HR4.out.app (q := ⟨nb, An, cn⟩) HBK.out.size HNEW.out HAB4.out (fun k hk => (HRW.out.own.lt k hk).2) HBAL.out hg5 hat5 hown5); have HB5 := hide (HB4.out.trans ((HBAL.out.mono HB4.out.size).trans ((Below.refl w.heap.size _).grown hg5 (by have := HB4.out.size; simp; omega) (fun k hk => (HRW.out.own.lt k hk).1)))); clear hown5 hg5 hnil5 hat5)
        refine ⟨⟨at_ + rs, qs ++ [⟨nb, An, cn⟩], by go_num, by omega, HROW5.out, by simp; omega, HB5.out, ?_⟩, by simp [intOf]; omega⟩
        rw [List.map_append]
        exact HALL.out
      · have HALL : Hid (Rc.all l = (qs.map (·.b), at_, Rc.rcode (l.drop at_))) := by show _ = _; rw [HSTEP.out, if_neg hc]
        unfold RRead at HRD
        have hcc := hide hc
        clear HSTEP HRS
        generalize Rc.rcode (l.drop at_) = rcd at *
        have hne : ((rcd : Int) != 0) = true := by simp; omega
        go_wp2_with fail
        refine HRD.out.mono ?_
        rintro e w3 ⟨⟨val, rfl, -, hno⟩, hb3⟩
        obtain rfl := hno hcc.out
        have hz3 := hb3.size
        clear hno HRD kcut
        go_upto_region 5 with fail
        have hal : Below w3.heap.size w3 (w3.alloc (.cells #[.int .i64 0, .int .i64 0, .slice none 0 0] 41)) := balloc (Below.refl _ _) _
        have hb4 := hb3.trans (hal.mono hz3)
        have HR4 := hide (HRW.out.below hb4)
        have HB4 := hide (HBK.out.trans (hb4.mono HBK.out.size))
        clear hal hb4 hb3
        generalize w3.alloc (.cells #[.int .i64 0, .int .i64 0, .slice none 0 0] 41) = w4 at *
        go_wp2_with fail
        go_ret3
        obtain ⟨Ax, cx, hv, hc1, hc2, hbx⟩ := HR4.out.val
        injection hv with hv1 hv2 hv3
        subst hv1 hv3
        refine ⟨⟨Av, cv, ?_, ?_, hc2, ?_⟩, HB4.out⟩
        · rw [HALL.out]
          simp
        · rw [HALL.out]; simpa using hc1
        · rw [HALL.out]; exact hbx
    · obtain rfl : at_ = l.length := by omega
      have HALL : Hid (Rc.all l = (qs.map (·.b), l.length, 0)) := by
        show _ = _
        rw [← HGO.out, Nat.sub_self]; rfl
      obtain ⟨Av, cv, rfl, hqc, hqm, hbats⟩ := HRW.out.val
      have HBT := hide hbats
      clear hbats hrow
      go_wp2_with fail
      go_ret3
      refine ⟨⟨Av, cv, ?_, ?_, hqm, ?_⟩, HBK.out⟩
      · rw [HALL.out]
        simp
      · rw [HALL.out]; simpa using hqc
      · rw [HALL.out]; exact HBT.out
end Go.Proofs.YtfdppggdgdnnaaaGreatDoor
