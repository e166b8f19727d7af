/-
  Package seg: add: one more edge.
  The library's functions that package name calls, found in this program: their bodies are those over which the shelf's contracts are proved.
  Names, plainly: numbers in so many digits, what they are read as, how they stand to one another; segments' and objects' names; texts that rise, each once.
  Texts that rise, each once, plainly: put in place one by one, or sorted and made compact: one list.
-/
import Derived.Test.YtcmgppacipdnaaaGreatDoorQSgP
import Derived.Shelf.LaysM
import Derived.Shelf.LaysC
import Derived.Shelf.Lays
import Derived.Test.YtcmgppacipdnaaaGreatDoorRows
import Derived.Lib.ParseIntB
import Derived.Lib.ParseIntBCases
import Derived.Lib.ItoaNum
import Derived.Lib.Repeat
import Derived.Lib.Join
import Derived.Lib.Split
import Derived.Lib.SplitLaws
import Derived.Lib.SlicesCompact
namespace Go.Proofs.YtcmgppacipdnaaaGreatDoor
open Go.RowKit

theorem news4 {w : World} {a b c d : Value} {t : TypeId} : ∀ j u, ([a, b, c, d] : List Value)[j]? = some u → (w.alloc (.cells #[a, b, c, d] t)).cell? ((⟨w.heap.size, 0, none⟩ : Addr).add j) = some u := fun j u h => by
  rw [Addr.add_lit, Nat.zero_add, World.cell?_alloc_mark]
  simpa using h
theorem SegL.ne {w : World} {X D : Nat} {v : Value} {s : Sg.St} {T : Nat → Prop} (h : SegL w X D v s T) : v.ownBlock ≠ some X := fun e => by
  rcases h.own.2 with ⟨e1, _⟩ | ⟨g, cap, cur, e1, _, hh, _⟩
  · rw [e1] at e; cases e
  · rw [e1] at e
    have e2 : g = X := by simpa [Value.ownBlock] using e
    rw [e2] at hh
    exact types_ne hh h.box (by decide) rfl
theorem SegL.boxed {w w1 w2 : World} {X D : Nat} {v : Value} {s : Sg.St} {T : Nat → Prop} (h : SegL w X D v s T) (hb : Below w.heap.size w w1) {row : Option Nat} (hg : w1.grownBy w2 row) (hr : row ≠ some X) : w2.heap[X]? = some (.cells (sgCells D s v) 141 (0, 0)) := by
  have hs := hb.size
  have := h.lt
  exact (hg.block X (by omega) (fun e => hr e.symm)).trans ((hb.block X h.lt).trans h.box)
/-- An edge is put behind, and the row laid into the box. -/
theorem SegL.push {w w1 w2 : World} {X D : Nat} {v v' : Value} {s : Sg.St} {T : Nat → Prop} (h : SegL w X D v s T) (hb : Below w.heap.size w w1) (e : Sg.Edge) (ho : w2.ownsRow 0 138 4 v' (s.edges.length + 1) (s.edges.flatMap egCells ++ egCells e)) (hg : w1.grownBy w2 v.ownBlock) (hv : v'.ownBlock = v.ownBlock ∨ v'.ownBlock = some w1.heap.size) :
    SegL (w2.setCell ⟨X, 3, none⟩ v') X D v' { s with edges := s.edges ++ [e] } (Up T w (w2.setCell ⟨X, 3, none⟩ v')) ∧ Chg T w (w2.setCell ⟨X, 3, none⟩ v') := by
  have n1 := h.ne
  have hX := h.lt
  have hbs := hb.size
  have hgs := hg.size
  have hbx := h.boxed hb hg n1
  have hnx : v'.ownBlock ≠ some X := fun e => by
    rcases hv with k | k
    · exact n1 (k ▸ e)
    · rw [k] at e; injection e with e; omega
  have hsz : (w2.setCell ⟨X, 3, none⟩ v').heap.size = w2.heap.size := by simp
  have hoth : ∀ k, k ≠ X → (w2.setCell ⟨X, 3, none⟩ v').heap[k]? = w2.heap[k]? := fun k hk => Below.heap_setCell _ _ _ _ hk
  refine ⟨⟨heap_setCell_same w2 X 3 _ _ _ hbx, ?_, .inl h.mX, fun g hga => ?_⟩, ?_⟩
  · have hw : s.edges.flatMap egCells ++ egCells e = (s.edges ++ [e]).flatMap egCells := by simp
    rw [hw] at ho
    show World.ownsRow _ 0 _ 4 v' (s.edges ++ [e]).length _
    rw [List.length_append]
    exact ownsRow_same ho fun g hg => hoth g (fun e => hnx (by rw [hg, e]))
  · rcases hv with k | k
    · exact .inl (h.mE g (by rw [← k]; exact hga))
    · rw [k] at hga
      injection hga with hga
      exact .inr ⟨by omega, by have := (ho.lt g (by rw [k, hga])).2; omega⟩
  · refine ⟨hg.os.trans hb.os, hg.tape.trans hb.tape, hg.output.trans hb.output, by omega, fun k hk hn => ?_⟩
    have hkX : k ≠ X := fun e => hn (e ▸ h.mX)
    exact (hoth k hkX).trans ((hg.block k (by omega) (fun e => hn (h.mE k e.symm))).trans (hb.block k hk))
set_option maxRecDepth 100000 in
theorem rNext_any (base epoch : Int) (n : Nat) (A : Option Addr) (cap : Nat) (w : World) (h0 : 0 ≤ base) (h1 : base + n ≤ 9223372036854775807) :
    Calls Tryz.prog 105 #[batV base epoch A n cap] w fun e w' => e = .returned (.int .i64 (base + n)) ∧ Below w.heap.size w w' := by
  have hw : IntKind.i64.wrap (base + n) = base + n := by rw [IntKind.wrap_i64]; omega
  unfold batV
  go_enter Tryz.func105, Tryz.ntmps105
  go_wp2_with fail
  go_ret
  exact ⟨rfl, balloc (Below.refl _ _) _⟩

theorem opRuns_app {P : Program} {ev : Operand → Value} {o : Oper} {w : World} {Post : Value → World → Prop} (t e : TypeId) (size bytes : Nat) (z : Value) (hu : P.underlying t = some (.slice e)) (hin : (P.info? e).map (fun i => (i.zero, i.size, i.bytes)) = some (some z, size, bytes)) (hzs : z.cells.size = size) (hsz : 0 < size)
    (s x : Operand) (ho : o.op = .call { callee := .builtin .append, args := #[s, x], argTypes := #[t, t] })
    (base : Nat) (v : Value) (n : Nat) (xs : List Value) (hs : ev s = v) (hown : w.ownsRow base e size v n xs) (A : Addr) (m c : Nat) (news : List Value) (hx : ev x = .slice (some A) m c) (hl : news.length = m * size)
    (hnews : ∀ j u, news[j]? = some u → w.cell? (A.add j) = some u) (h1 : ∀ u ∈ news, u.oneCell' = true) (h63 : n + m ≤ maxLen) (hby : (n + m) * bytes ≤ 140737488355328) (hbase : base ≤ w.heap.size)
    (h : ∀ v' w', w'.ownsRow base e size v' (n + m) (xs ++ news) → w.grownBy w' v.ownBlock → (v'.ownBlock = v.ownBlock ∨ v'.ownBlock = some w.heap.size) → Post v' w') : OpRuns P ev o w Post := by
  obtain ⟨i, hi, hz, hs1, hb⟩ := info_parts hin
  obtain ⟨v', w', hrun, r2, r3, _, r5⟩ := run_append_own_at (P := P) w base t o.type e i _ size bytes hu hi hz hs1 hb hzs hsz v n xs hown A m c news hl hnews h1 h63 hby hbase
  unfold OpRuns execOp
  simp only [ho, resolve, invoke, builtin, Sem.run_bind, Sem.run_pure, Result.andThen_ok, List.map_toArray, List.map_cons, List.map_nil, hs, hx, hrun]
  exact h _ _ r2 r3 r5
/-- A new row of one element, apart from the row that grows. -/
def heldNew (row : Option Nat) (lo : Nat) (news : List Value) (hr : ∀ k, row = some k → k < lo) : Held (fun a b : World => Chg (fun k => row = some k) a b) :=
  ⟨fun v w => ∃ g, lo ≤ g ∧ g < w.heap.size ∧ v = .slice (some ⟨g, 0, none⟩) 1 1 ∧ ∀ j u, news[j]? = some u → w.cell? ((⟨g, 0, none⟩ : Addr).add j) = some u,
   fun v w1 w2 ⟨g, h1, h2, h3, h4⟩ hg => ⟨g, h1, Nat.lt_of_lt_of_le h2 hg.size, h3, fun j u hj => by
     have h := h4 j u hj
     rw [Addr.add_lit, Nat.zero_add] at h ⊢
     exact hg.cell h (fun e => by have := hr g e; omega)⟩⟩
/-- The row that has grown. -/
def heldApp (w5 : World) (row : Option Nat) (e : TypeId) (size n : Nat) (xs : List Value) : Held (fun a b : World => Below a.heap.size a b) :=
  ⟨fun v w => ∃ wa wb, Below w5.heap.size w5 wa ∧ wa.grownBy wb row ∧ wb.ownsRow 0 e size v n xs ∧ (v.ownBlock = row ∨ v.ownBlock = some wa.heap.size) ∧ Below wb.heap.size wb w,
   fun _v _w1 _w2 ⟨wa, wb, h1, h2, h3, h4, h5⟩ hg => ⟨wa, wb, h1, h2, h3, h4, h5.trans (hg.mono h5.size)⟩⟩

set_option maxRecDepth 100000 in
set_option maxHeartbeats 4000000 in
theorem sgAdd_any (X D : Nat) (s : Sg.St) (T : Nat → Prop) (b : Rc.Bat) (A : Option Addr) (cap n size : Nat) (w : World) (h : SegAt w X D s T) (ho : Sg.Ok s) (hl : s.edges.length ≤ 90000) (hb : IsBat w A cap b) (hn : b.recs.length = n) (h0 : 0 ≤ b.base) (h1 : b.base + n ≤ 1099511627776) (hs : size ≤ 1000000) :
    Calls Tryz.prog 109 #[.pointer (some ⟨X, 0, none⟩), batV b.base b.epoch A n cap, .int .i64 size] w fun e w' => e = .returned (.tuple #[]) ∧ SegAt w' X D (s.add b size) (Up T w w') ∧ Chg T w w' := by
  obtain ⟨v, h⟩ := h
  have HH := hide h
  have HO := hide ho
  have hle := hb.le
  have hmx := hb.max
  rw [hn] at hle
  have hlp := ho.pos _ (Sg.last_mem ho.ne)
  have hW1 : Below w.heap.size w (w.alloc (.cells #[.int .i64 b.base, .int .i64 b.epoch, .slice A n cap] 36)) := balloc (Below.refl _ _) _
  have HW1 := hide hW1
  have HT := hide (fun (W : World) (hw : Below w.heap.size w W) => time_any b.base b.epoch b.recs A cap n W hn (by omega) (hb.recs.below hw (Nat.le_refl _)))
  have HS := hide (fun (W : World) (hw : Below w.heap.size w W) => sgSize_any X D s T W ⟨v, h.below hw⟩ ho)
  have HTM := hide (fun (W : World) (hw : Below w.heap.size w W) => sgTime_any X D s T W ⟨v, h.below hw⟩ ho)
  have HN := hide (fun (W : World) => rNext_any b.base b.epoch n A cap W h0 (by omega))
  have HADD : Hid (s.add b size = { s with edges := s.edges ++ [⟨b.base + n, (Sg.last s.edges).pos + size, b.epoch, if 0 < (Sg.last s.edges).pos then max (Rc.maxT b.recs) (Sg.last s.edges).time else Rc.maxT b.recs⟩] }) := hide (by rw [← hn]; rfl)
  rw [HADD.out]
  generalize (Sg.last s.edges).pos = lp at *
  generalize (Sg.last s.edges).time = lt at *
  obtain ⟨ba, ep, rs⟩ := b
  simp only at *
  generalize Rc.maxT rs = mt at *
  obtain ⟨tm, htm⟩ : ∃ tm, tm = if 0 < lp then max mt lt else mt := ⟨_, rfl⟩
  rw [← htm]
  have HTMV := hide htm
  have y0 : (w.alloc (.cells #[.int .i64 ba, .int .i64 ep, .slice A n cap] 36)).cell? ⟨w.heap.size, 0, none⟩ = some (.int .i64 ba) := by rw [World.cell?_alloc_mark]; rfl
  have y1 : (w.alloc (.cells #[.int .i64 ba, .int .i64 ep, .slice A n cap] 36)).cell? ⟨w.heap.size, 1, none⟩ = some (.int .i64 ep) := by rw [World.cell?_alloc_mark]; rfl
  have y2 : (w.alloc (.cells #[.int .i64 ba, .int .i64 ep, .slice A n cap] 36)).cell? ⟨w.heap.size, 2, none⟩ = some (.slice A n cap) := by rw [World.cell?_alloc_mark]; rfl
  have hBz : w.heap.size < (w.alloc (.cells #[.int .i64 ba, .int .i64 ep, .slice A n cap] 36)).heap.size := by simp
  clear h ho hb hW1 HADD htm
  unfold batV at *
  go_enter Tryz.func109, Tryz.ntmps109
  go_upto_region 1 with fail
  generalize w.alloc (.cells #[.int .i64 ba, .int .i64 ep, .slice A n cap] 36) = W1 at *
  obtain ⟨Bx, hBx⟩ : ∃ Bx, Bx = w.heap.size := ⟨_, rfl⟩
  rw [← hBx] at y0 y1 y2 hBz ⊢
  have HBX := hide hBx
  clear hBx
  go_upto_if 11 with (first
    | (go_at_call 146; refine (HT.out _ HW1.out).mono ?_; rintro e w2 ⟨rfl, hb⟩; have HB2 := hide hb; clear hb)
    | (go_at_call 51; refine (HS.out _ (HW1.out.trans (HB2.out.mono HW1.out.size))).mono ?_; rintro e w3 ⟨rfl, hb⟩; have HB3 := hide (HB2.out.trans (hb.mono HB2.out.size)); clear hb)
    | fail)
  go_cut [6] from 7 to 16 (fun tv wx => tv = .int .i64 tm ∧ Below W1.heap.size W1 wx)
  case first =>
    by_cases hp : 0 < lp
    · have ip : Hid (tm = max mt lt) := hide (HTMV.out.trans (if_pos hp))
      have dp : decide (0 < lp) = true := decide_eq_true hp
      go_wp2_with (first
        | (go_at_call 88; refine (HTM.out _ (HW1.out.trans (HB3.out.mono HW1.out.size))).mono ?_; rintro e w4 ⟨rfl, hb⟩; have HB4 := hide (HB3.out.trans (hb.mono HB3.out.size)); clear hb)
        | fail)
      go_meet
      all_goals exact ⟨by rw [ip.out]; try (first | rw [Int.max_eq_left (by omega)] | rw [Int.max_eq_right (by omega)]), HB4.out⟩
    · have ip : Hid (tm = mt) := hide (HTMV.out.trans (if_neg hp))
      have dp : decide (0 < lp) = false := decide_eq_false hp
      go_wp2_with fail
      go_meet
      exact ⟨by rw [ip.out]; try (first | rw [Int.max_eq_left (by omega)] | rw [Int.max_eq_right (by omega)]), HB3.out⟩
  case rest =>
    obtain ⟨rfl, hb5⟩ := hcut
    rename World => w5
    have HB5 := hide hb5
    have HBW : Hid (Below w.heap.size w w5) := hide (HW1.out.trans (hb5.mono HW1.out.size))
    have hz5 : Bx < w5.heap.size := Nat.lt_of_lt_of_le hBz hb5.size
    replace y0 := (hb5.cell (p := ⟨Bx, 0, none⟩) hBz).trans y0
    replace y1 := (hb5.cell (p := ⟨Bx, 1, none⟩) hBz).trans y1
    replace y2 := (hb5.cell (p := ⟨Bx, 2, none⟩) hBz).trans y2
    obtain ⟨Av, cv, rfl, -, -, -, -, c3, -⟩ := (HH.out.below HBW.out).cells
    have hX5 : X < w5.heap.size := Nat.lt_of_lt_of_le HH.out.lt HBW.out.size
    have hwp : IntKind.i64.wrap (lp + (size : Int)) = lp + (size : Int) := by rw [IntKind.wrap_i64]; omega
    clear hb5 HT HTM
    go_upto_region 4 with fail
    obtain ⟨row, hrow⟩ : ∃ row, row = Value.ownBlock (.slice Av s.edges.length cv) := ⟨_, rfl⟩
    have hrow5 : ∀ k, row = some k → k < w5.heap.size := fun k hk => Nat.lt_of_lt_of_le (HH.out.own.lt k (hrow ▸ hk)).2 HBW.out.size
    have hnX : ∀ k, row = some k → k ≠ X := fun k hk e => HH.out.ne (by rw [← hrow, hk, e])
    have hnB : ∀ k, row = some k → k ≠ Bx := fun k hk e => by have := (HH.out.own.lt k (hrow ▸ hk)).2; have := HBX.out; omega
    have HOW := hide (ownsRow_same (w' := w5) HH.out.own fun g hg => HBW.out.block g (HH.out.own.lt g hg).2)
    refine wp_region_app (G0 := fun a b : World => Below a.heap.size a b) (G := fun a b : World => Chg (fun k => row = some k) a b) ⟨fun w => Below.refl _ w, fun h k => h.trans (k.mono h.size)⟩ ⟨fun w => Chg.refl _ w, fun h k => h.then k⟩ (fun a b h => Chg.of_below h) [16, 17, 18, 19, 20, 21, 22, 23, 24, 25, 26, 27, 28, 29, 30, 31, 32, 33, 34] 16 32 [8] (fun d => match d with
      | 16 => .is (.pointer (some ⟨X, 0, none⟩)) | 17 => .is (.pointer (some ⟨X, 0, none⟩)) | 18 => .is (.pointer (some ⟨X, 0, none⟩)) | 19 => .is (.pointer (some ⟨X, 3, none⟩)) | 20 => .is (.slice Av s.edges.length cv) | 21 => .is (.agg #[.int .i64 ba, .int .i64 ep, .slice A n cap]) | 22 => .is (.int .i64 (ba + n)) | 23 => .is (.pointer (some ⟨X, 0, none⟩)) | 24 => .is (.int .i64 lp) | 25 => .is (.int .i64 size) | 26 => .is (.int .i64 (lp + size)) | 27 => .is (.pointer (some ⟨Bx, 1, none⟩)) | 28 => .is (.int .i64 ep) | 29 => .is (.int .i64 tm) | 30 => .is (.agg #[.int .i64 (ba + n), .int .i64 (lp + size), .int .i64 ep, .int .i64 tm]) | 31 => heldNew row w5.heap.size (egCells ⟨ba + n, lp + size, ep, tm⟩) hrow5 | 33 => .is (.pointer (some ⟨X, 0, none⟩)) | 34 => .is (.pointer (some ⟨X, 3, none⟩)) | _ => .any) (heldApp w5 row 138 4 (s.edges.length + 1) (s.edges.flatMap egCells ++ egCells ⟨ba + n, lp + size, ep, tm⟩)) _ (by kernel_rfl) (by kernel_rfl) rfl (by kernel_rfl) ?_ ?_
    · simp only [List.size_toArray, List.length_cons, List.length_nil, List.take_succ_cons, List.take_zero, StepsA]
      refine ⟨?_, ?_, ?_, ?_, ?_, ?_, ?_, ?_, ?_, ?_, ?_, ?_, ?_, ?_, ?_, ?_, ?_, ?_, ?_, trivial⟩
      all_goals first | rw [if_pos (by decide)] | (rw [if_neg (by decide)]; first | rw [if_pos (by decide)] | rw [if_neg (by decide)])
      all_goals
        intro ev w6 hb hev hd
        have ev0 : ev (.tmp 0) = .pointer (some ⟨X, 0, none⟩) := hev _ (by simp)
        have ev2 : ev (.tmp 2) = .int .i64 size := hev _ (by simp)
        have ev4 : ev (.tmp 4) = .pointer (some ⟨Bx, 0, none⟩) := hev _ (by simp)
        have ev6 : ev (.tmp 6) = .int .i64 tm := hev _ (by simp)
        have evf : ∀ f, ev (.func f) = .func (.func f) #[] #[] := fun f => hev _ (by simp)
        have evc : ∀ c, ev (.const c) = c := fun c => hev _ (by simp)
        have k3 : w6.cell? ⟨X, 3, none⟩ = some (.slice Av s.edges.length cv) := by first | exact Chg.cell hb c3 (fun e => hnX X e rfl) | exact (hb.cell (p := ⟨X, 3, none⟩) hX5).trans c3
        have k0 : w6.cell? ⟨Bx, 0, none⟩ = some (.int .i64 ba) := by first | exact Chg.cell hb y0 (fun e => hnB Bx e rfl) | exact (hb.cell (p := ⟨Bx, 0, none⟩) hz5).trans y0
        have k1 : w6.cell? ⟨Bx, 1, none⟩ = some (.int .i64 ep) := by first | exact Chg.cell hb y1 (fun e => hnB Bx e rfl) | exact (hb.cell (p := ⟨Bx, 1, none⟩) hz5).trans y1
        have k2 : w6.cell? ⟨Bx, 2, none⟩ = some (.slice A n cap) := by first | exact Chg.cell hb y2 (fun e => hnB Bx e rfl) | exact (hb.cell (p := ⟨Bx, 2, none⟩) hz5).trans y2
        have HB6 := hide hb
        clear hev hb y0 y1 y2 c3 hnX hnB
        simp [DepsD, Dj, Held.is] at hd
        first
          | (obtain ⟨h20, ⟨g, hg1, hg2, h31, hnw⟩, -⟩ := hd
             refine opRuns_app 139 138 4 32 _ (by kernel_rfl) edge_info (by rfl) (by omega) (.tmp 20) (.tmp 31) (by rfl) 0 (.slice Av s.edges.length cv) s.edges.length (s.edges.flatMap egCells) h20 (ownsRow_same HOW.out fun q hq => HB6.out.block q (HOW.out.lt q hq).2) ⟨g, 0, none⟩ 1 1 (egCells ⟨ba + n, lp + size, ep, tm⟩) h31 (by rfl) hnw (by intro u hu; simp at hu; rcases hu with rfl | rfl | rfl | rfl <;> rfl) (by simp only [maxLen]; omega) (by omega) (Nat.zero_le _) fun v8 w8 ho8 hg8 hv8 => ⟨Chg.of_grown hg8 (fun k hk => hrow.trans hk), ?_⟩
             show Dj _ _ 32 32 _ _
             unfold Dj
             rw [if_pos rfl]
             exact ⟨w6, w8, (Below.refl w5.heap.size w5).drew.trans HB6.out, hrow ▸ hg8, ho8, by rw [hrow]; exact hv8, Below.refl _ _⟩)
          | simp [OpRuns, execOp, go_sem, Dj, Held.is, Below.refl, *]
      · exact HN.out w6
      · exact HS.out w6 (HBW.out.trans (((Below.refl w5.heap.size w5).drew.trans HB6.out).mono HBW.out.size))
      · exact ⟨balloc (Below.refl _ _) _, w6.heap.size, HB6.out.size, by simp, rfl, news4 (w := w6)⟩
    · intro f w9 hb hf
      have hj := hf 32 (by simp)
      unfold Dj at hj
      rw [if_pos rfl] at hj
      obtain ⟨wa, wb, h1, h2, h3, h4, h5⟩ := hj
      have e34 : f 34 = .pointer (some ⟨X, 3, none⟩) := by have := hf 34 (by simp); simpa [Dj, Held.is] using this
      have hba := HBW.out.trans (h1.mono HBW.out.size)
      have hg9 : wa.grownBy w9 (Value.ownBlock (.slice Av s.edges.length cv)) := hrow ▸ ⟨h5.os.trans h2.os, h5.tape.trans h2.tape, h5.output.trans h2.output, Nat.le_trans h2.size h5.size, fun k hk hn => (h5.block k (Nat.lt_of_lt_of_le hk h2.size)).trans (h2.block k hk hn)⟩
      have ho9 := ownsRow_same h3 fun g hg => h5.block g (h3.lt g hg).2
      obtain ⟨A8, n8, k8, e8⟩ := own_slice h3
      rw [e8] at ho9 h4
      have hbx := HH.out.boxed hba hg9 HH.out.ne
      have e3 : w9.cell? ⟨X, 3, none⟩ = some (.slice Av s.edges.length cv) := box_cell hbx 3
      have ef : w9.frozen? ⟨X, 3, none⟩ = false := box_free hbx 3
      have HP := hide (HH.out.push hba ⟨ba + n, lp + size, ep, tm⟩ ho9 hg9 (hrow ▸ h4))
      clear hb hf h1 h2 h3 h4 h5 ho9 hg9 hba hbx HOW hrow hrow5 hnX hnB y0 y1 y2 c3
      simp only [puts, Act.put, List.setIfInBounds_toArray, List.set_cons_succ, List.set_cons_zero]
      rw [e34, e8]
      clear e34 e8
      generalize f 16 = q16
      generalize f 17 = q17
      generalize f 18 = q18
      generalize f 19 = q19
      generalize f 20 = q20
      generalize f 21 = q21
      generalize f 22 = q22
      generalize f 23 = q23
      generalize f 24 = q24
      generalize f 25 = q25
      generalize f 26 = q26
      generalize f 27 = q27
      generalize f 28 = q28
      generalize f 29 = q29
      generalize f 30 = q30
      generalize f 31 = q31
      generalize f 33 = q33
      clear f
      go_wp2_with fail
      go_end0
      exact ⟨rfl, ⟨_, HP.out.1⟩, HP.out.2⟩
end Go.Proofs.YtcmgppacipdnaaaGreatDoor

namespace Go.Proofs.YtcmgppacipdnaaaGreatDoor
open Go.Shelf
def lay_repeatF_ren : Go.Shelf.Ren := ⟨fun | 105 => 212 | 212 => 238 | 99 => 239 | 165 => 240 | 166 => 241 | 170 => 242 | 169 => 243 | 263 => 258 | 264 => 259 | 206 => 210 | 240 => 260 | 241 => 261 | 276 => 267 | 277 => 268 | n => n, fun | 9 => 9 | 3 => 3 | 4 => 4 | 20 => 20 | 0 => 0 | 46 => 143 | 109 => 279 | 5 => 5 | 72 => 283 | 76 => 154 | 51 => 127 | 146 => 304 | 53 => 124 | 148 => 306 | 70 => 281 | 37 => 67 | 75 => 46 | 127 => 296 | 164 => 315 | 80 => 284 | n => n, fun | n => n⟩
theorem lay_repeatF : Go.Proofs.Lays.n105 Tryz.prog lay_repeatF_ren := {
  mixed := by kernel_rfl
  f99 := Tryz.func239.trans (congrArg some (by kernel_rfl))
  f105 := Tryz.func212.trans (congrArg some (by kernel_rfl))
  f165 := Tryz.func240.trans (congrArg some (by kernel_rfl))
  f166 := Tryz.func241.trans (congrArg some (by kernel_rfl))
  f169 := Tryz.func243.trans (congrArg some (by kernel_rfl))
  f170 := Tryz.func242.trans (congrArg some (by kernel_rfl))
  f206 := Tryz.func210.trans (congrArg some (by kernel_rfl))
  f212 := Tryz.func238.trans (congrArg some (by kernel_rfl))
  f240 := Tryz.func260.trans (congrArg some (by kernel_rfl))
  f241 := Tryz.func261.trans (congrArg some (by kernel_rfl))
  f263 := Tryz.func258.trans (congrArg some (by kernel_rfl))
  f264 := Tryz.func259.trans (congrArg some (by kernel_rfl))
  f276 := Tryz.func267.trans (congrArg some (by kernel_rfl))
  f277 := Tryz.func268.trans (congrArg some (by kernel_rfl))
  t0 := Tryz.underlying0
  a0 := Tryz.isAgg0
  z0 := Tryz.sizeOf0
  v0 := Tryz.zeroValue0
  t3 := Tryz.underlying3
  a3 := Tryz.isAgg3
  z3 := Tryz.sizeOf3
  v3 := Tryz.zeroValue3
  t4 := Tryz.underlying4
  a4 := Tryz.isAgg4
  z4 := Tryz.sizeOf4
  v4 := Tryz.zeroValue4
  t5 := Tryz.underlying5
  a5 := Tryz.isAgg5
  z5 := Tryz.sizeOf5
  v5 := Tryz.zeroValue5
  t9 := Tryz.underlying9
  a9 := Tryz.isAgg9
  z9 := Tryz.sizeOf9
  v9 := Tryz.zeroValue9
  t20 := Tryz.underlying20
  a20 := Tryz.isAgg20
  z20 := Tryz.sizeOf20
  v20 := Tryz.zeroValue20
  t37 := Tryz.underlying67
  a37 := Tryz.isAgg67
  z37 := Tryz.sizeOf67
  v37 := Tryz.zeroValue67
  t46 := Tryz.underlying143
  a46 := Tryz.isAgg143
  z46 := Tryz.sizeOf143
  v46 := Tryz.zeroValue143
  t51 := Tryz.underlying127
  a51 := Tryz.isAgg127
  z51 := Tryz.sizeOf127
  v51 := Tryz.zeroValue127
  t53 := Tryz.underlying124
  a53 := Tryz.isAgg124
  z53 := Tryz.sizeOf124
  v53 := Tryz.zeroValue124
  t70 := Tryz.underlying281
  a70 := Tryz.isAgg281
  z70 := Tryz.sizeOf281
  v70 := Tryz.zeroValue281
  t72 := Tryz.underlying283
  a72 := Tryz.isAgg283
  z72 := Tryz.sizeOf283
  v72 := Tryz.zeroValue283
  t75 := Tryz.underlying46
  a75 := Tryz.isAgg46
  z75 := Tryz.sizeOf46
  v75 := Tryz.zeroValue46
  t76 := Tryz.underlying154
  a76 := Tryz.isAgg154
  z76 := Tryz.sizeOf154
  v76 := Tryz.zeroValue154
  t109 := Tryz.underlying279
  a109 := Tryz.isAgg279
  z109 := Tryz.sizeOf279
  v109 := Tryz.zeroValue279
  t127 := Tryz.underlying296
  a127 := Tryz.isAgg296
  z127 := Tryz.sizeOf296
  v127 := Tryz.zeroValue296
  t146 := Tryz.underlying304
  a146 := Tryz.isAgg304
  z146 := Tryz.sizeOf304
  v146 := Tryz.zeroValue304
  t148 := Tryz.underlying306
  a148 := Tryz.isAgg306
  z148 := Tryz.sizeOf306
  v148 := Tryz.zeroValue306
  t164 := Tryz.underlying315
  a164 := Tryz.isAgg315
  z164 := Tryz.sizeOf315
  v164 := Tryz.zeroValue315 }
def lay_formatF_ren : Go.Shelf.Ren := ⟨fun | 173 => 211 | 246 => 237 | 283 => 254 | 284 => 255 | 285 => 256 | 286 => 257 | 129 => 202 | 317 => 263 | 318 => 264 | 319 => 265 | 320 => 266 | 337 => 269 | 338 => 270 | n => n, fun | 2 => 2 | 3 => 3 | 9 => 9 | 4 => 4 | 171 => 300 | 0 => 0 | 53 => 124 | 37 => 67 | 5 => 5 | 173 => 302 | 212 => 313 | 51 => 127 | 20 => 20 | 213 => 314 | 46 => 143 | 232 => 317 | 233 => 318 | n => n, fun | 17 => 23 | 18 => 25 | 19 => 26 | n => n⟩
theorem lay_formatF : Go.Proofs.LaysM.n173 Tryz.prog lay_formatF_ren := {
  mixed := by kernel_rfl
  f129 := Tryz.func202.trans (congrArg some (by kernel_rfl))
  f173 := Tryz.func211.trans (congrArg some (by kernel_rfl))
  f246 := Tryz.func237.trans (congrArg some (by kernel_rfl))
  f283 := Tryz.func254.trans (congrArg some (by kernel_rfl))
  f284 := Tryz.func255.trans (congrArg some (by kernel_rfl))
  f285 := Tryz.func256.trans (congrArg some (by kernel_rfl))
  f286 := Tryz.func257.trans (congrArg some (by kernel_rfl))
  f317 := Tryz.func263.trans (congrArg some (by kernel_rfl))
  f318 := Tryz.func264.trans (congrArg some (by kernel_rfl))
  f319 := Tryz.func265.trans (congrArg some (by kernel_rfl))
  f320 := Tryz.func266.trans (congrArg some (by kernel_rfl))
  f337 := Tryz.func269.trans (congrArg some (by kernel_rfl))
  f338 := Tryz.func270.trans (congrArg some (by kernel_rfl))
  t0 := Tryz.underlying0
  a0 := Tryz.isAgg0
  z0 := Tryz.sizeOf0
  v0 := Tryz.zeroValue0
  t2 := Tryz.underlying2
  a2 := Tryz.isAgg2
  z2 := Tryz.sizeOf2
  v2 := Tryz.zeroValue2
  t3 := Tryz.underlying3
  a3 := Tryz.isAgg3
  z3 := Tryz.sizeOf3
  v3 := Tryz.zeroValue3
  t4 := Tryz.underlying4
  a4 := Tryz.isAgg4
  z4 := Tryz.sizeOf4
  v4 := Tryz.zeroValue4
  t5 := Tryz.underlying5
  a5 := Tryz.isAgg5
  z5 := Tryz.sizeOf5
  v5 := Tryz.zeroValue5
  t9 := Tryz.underlying9
  a9 := Tryz.isAgg9
  z9 := Tryz.sizeOf9
  v9 := Tryz.zeroValue9
  t20 := Tryz.underlying20
  a20 := Tryz.isAgg20
  z20 := Tryz.sizeOf20
  v20 := Tryz.zeroValue20
  t37 := Tryz.underlying67
  a37 := Tryz.isAgg67
  z37 := Tryz.sizeOf67
  v37 := Tryz.zeroValue67
  t46 := Tryz.underlying143
  a46 := Tryz.isAgg143
  z46 := Tryz.sizeOf143
  v46 := Tryz.zeroValue143
  t51 := Tryz.underlying127
  a51 := Tryz.isAgg127
  z51 := Tryz.sizeOf127
  v51 := Tryz.zeroValue127
  t53 := Tryz.underlying124
  a53 := Tryz.isAgg124
  z53 := Tryz.sizeOf124
  v53 := Tryz.zeroValue124
  t171 := Tryz.underlying300
  a171 := Tryz.isAgg300
  z171 := Tryz.sizeOf300
  v171 := Tryz.zeroValue300
  t173 := Tryz.underlying302
  a173 := Tryz.isAgg302
  z173 := Tryz.sizeOf302
  v173 := Tryz.zeroValue302
  t212 := Tryz.underlying313
  a212 := Tryz.isAgg313
  z212 := Tryz.sizeOf313
  v212 := Tryz.zeroValue313
  t213 := Tryz.underlying314
  a213 := Tryz.isAgg314
  z213 := Tryz.sizeOf314
  t232 := Tryz.underlying317
  a232 := Tryz.isAgg317
  z232 := Tryz.sizeOf317
  v232 := Tryz.zeroValue317
  t233 := Tryz.underlying318
  a233 := Tryz.isAgg318
  z233 := Tryz.sizeOf318
  v233 := Tryz.zeroValue318
  g17 := by kernel_rfl
  g18 := by kernel_rfl
  g19 := by kernel_rfl
  i0 := by kernel_rfl
  i2 := by kernel_rfl
  i3 := by kernel_rfl
  i4 := by kernel_rfl
  i5 := by kernel_rfl
  i9 := by kernel_rfl
  i20 := by kernel_rfl
  i37 := by kernel_rfl
  i46 := by kernel_rfl
  i51 := by kernel_rfl
  i53 := by kernel_rfl
  i171 := by kernel_rfl
  i173 := by kernel_rfl
  i212 := by kernel_rfl
  i232 := by kernel_rfl
  i233 := by kernel_rfl
  m17 := by kernel_rfl
  m18 := by kernel_rfl
  m19 := by kernel_rfl }
end Go.Proofs.YtcmgppacipdnaaaGreatDoor

namespace Go.Proofs.YtcmgppacipdnaaaGreatDoor.Nm

/-- A digit's byte. -/
def dc (d : Nat) : UInt8 := UInt8.ofNat (48 + d % 10)
theorem dc_toNat (d : Nat) : (dc d).toNat = 48 + d % 10 := by
  unfold dc
  rw [UInt8.toNat_ofNat']
  omega
/-- A number in so many digits. -/
def dgs : Nat → Nat → List UInt8
  | 0, _ => []
  | k + 1, u => dgs k (u / 10) ++ [dc u]
theorem dgs_length : ∀ (k u : Nat), (dgs k u).length = k
  | 0, _ => rfl
  | k + 1, u => by simp [dgs, dgs_length k]
theorem dgs_zero : ∀ k : Nat, dgs k 0 = List.replicate k 48
  | 0 => rfl
  | k + 1 => by
    show dgs k (0 / 10) ++ [dc 0] = _
    rw [Nat.zero_div, dgs_zero k, List.replicate_succ']
    rfl
theorem dgs_small {k u : Nat} (h : u < 10) : dgs (k + 1) u = List.replicate k 48 ++ Lib.decDigits u := by
  show dgs k (u / 10) ++ [dc u] = _
  rw [Nat.div_eq_of_lt h, dgs_zero, Lib.decDigits_one h]
  unfold dc
  rw [Nat.mod_eq_of_lt h]
theorem decDigits_big {u : Nat} (h : ¬ u < 10) : Lib.decDigits u = Lib.decDigits (u / 10) ++ [dc u] := by
  rw [Lib.decDigits, dif_neg h]; rfl
/-- The numeral, filled up with noughts. -/
theorem dgs_pad : ∀ (k u : Nat), u < 10 ^ (k + 1) → (Lib.decDigits u).length ≤ k + 1 ∧ List.replicate (k + 1 - (Lib.decDigits u).length) 48 ++ Lib.decDigits u = dgs (k + 1) u
  | 0, u, h => by
    have h1 : u < 10 := by simpa using h
    rw [dgs_small h1, Lib.decDigits_one h1]
    simp
  | k + 1, u, h => by
    by_cases h1 : u < 10
    · rw [dgs_small h1, Lib.decDigits_one h1]
      simp
    · have h2 : u / 10 < 10 ^ (k + 1) := by rw [Nat.pow_succ] at h; omega
      obtain ⟨l1, l2⟩ := dgs_pad k (u / 10) h2
      rw [decDigits_big h1]
      refine ⟨by simp; omega, ?_⟩
      rw [List.length_append, ← List.append_assoc]
      show _ = dgs (k + 1) (u / 10) ++ [dc u]
      rw [← l2]
      simp
/-- How a text of digits is read on. -/
def val (acc : Nat) (l : List UInt8) : Nat := l.foldl (fun a c => a * 10 + (c.toNat - 48)) acc
def digit (c : UInt8) : Prop := 48 ≤ c.toNat ∧ c.toNat ≤ 57
theorem dc_digit (d : Nat) : digit (dc d) := by unfold digit; rw [dc_toNat]; omega
theorem dgs_digit : ∀ (k u : Nat), ∀ c ∈ dgs k u, digit c
  | 0, _, c, h => by simp [dgs] at h
  | k + 1, u, c, h => by
    rcases List.mem_append.1 h with h | h
    · exact dgs_digit k _ c h
    · rw [List.mem_singleton.1 h]; exact dc_digit u
theorem val_snoc (acc : Nat) (l : List UInt8) (c : UInt8) : val acc (l ++ [c]) = val acc l * 10 + (c.toNat - 48) := by simp [val]
theorem val_dgs : ∀ (k u : Nat), u < 10 ^ k → val 0 (dgs k u) = u
  | 0, u, h => by simp [dgs, val] at *; omega
  | k + 1, u, h => by
    show val 0 (dgs k (u / 10) ++ [dc u]) = u
    rw [val_snoc, val_dgs k (u / 10) (by rw [Nat.pow_succ] at h; omega), dc_toNat]
    omega
theorem dgs_inj (k u v : Nat) (hu : u < 10 ^ k) (hv : v < 10 ^ k) (h : dgs k u = dgs k v) : u = v := by rw [← val_dgs k u hu, h, val_dgs k v hv]

/-! Cut at dashes. -/
/-! Lists of one length, one behind the other. -/
/-! Names. -/
def right (b : Int) : Prop := 0 ≤ b ∧ b ≤ 1099511627776
instance (b : Int) : Decidable (right b) := inferInstanceAs (Decidable (_ ∧ _))
/-- `log-` -/
def log : List UInt8 := [108, 111, 103, 45]
def segN (b : Nat) : List UInt8 := log ++ dgs 13 b
def seg (b : Int) : List UInt8 := if right b then segN b.toNat else []
def idly (i : Int) : Prop := 0 ≤ i ∧ i ≤ 2147483647
instance (b : Int) : Decidable (idly b) := inferInstanceAs (Decidable (_ ∧ _))
theorem segN_length (b : Nat) : (segN b).length = 17 := by simp [segN, log, dgs_length]
theorem segN_inj (a b : Nat) (ha : a < 10 ^ 13) (hb : b < 10 ^ 13) (h : segN a = segN b) : a = b := dgs_inj 13 a b ha hb (List.append_cancel_left h)
end Go.Proofs.YtcmgppacipdnaaaGreatDoor.Nm

namespace Go.Proofs.YtcmgppacipdnaaaGreatDoor.Nm

abbrev Tx := List UInt8
theorem tx_tri (a b : Tx) : a < b ∨ a = b ∨ b < a := by
  by_cases h1 : a < b
  · exact .inl h1
  · by_cases h2 : b < a
    · exact .inr (.inr h2)
    · exact .inr (.inl (List.le_antisymm (List.not_lt.1 h2) (List.not_lt.1 h1)))
/-- Two lists that rise, with the same members, are one. -/
theorem strict_ext : ∀ (a b : List Tx), a.Pairwise (· < ·) → b.Pairwise (· < ·) → (∀ x, x ∈ a ↔ x ∈ b) → a = b
  | [], [], _, _, _ => rfl
  | [], y :: b, _, _, h => absurd ((h y).2 (List.mem_cons_self ..)) List.not_mem_nil
  | x :: a, [], _, _, h => absurd ((h x).1 (List.mem_cons_self ..)) List.not_mem_nil
  | x :: a, y :: b, ha, hb, h => by
    rw [List.pairwise_cons] at ha hb
    have hxy : x = y := by
      rcases List.mem_cons.1 ((h x).1 (List.mem_cons_self ..)) with e | e
      · exact e
      · rcases List.mem_cons.1 ((h y).2 (List.mem_cons_self ..)) with e2 | e2
        · exact e2.symm
        · exact absurd (List.lt_trans (hb.1 x e) (ha.1 y e2)) (List.lt_irrefl _)
    subst hxy
    rw [strict_ext a b ha.2 hb.2 fun z => ?_]
    constructor
    · intro hz
      rcases List.mem_cons.1 ((h z).1 (List.mem_cons_of_mem _ hz)) with e | e
      · subst e; exact absurd (ha.1 _ hz) (List.lt_irrefl _)
      · exact e
    · intro hz
      rcases List.mem_cons.1 ((h z).2 (List.mem_cons_of_mem _ hz)) with e | e
      · subst e; exact absurd (hb.1 _ hz) (List.lt_irrefl _)
      · exact e
/-- Put in place, once. -/
def ins (x : Tx) : List Tx → List Tx
  | [] => [x]
  | y :: l => if y < x then y :: ins x l else if y = x then y :: l else x :: y :: l
def rising (l : List Tx) : List Tx := l.foldl (fun o x => ins x o) []
end Go.Proofs.YtcmgppacipdnaaaGreatDoor.Nm
