/-
  DiskArms: the states, plainly.
  DiskArms: what is told behind the appends, and behind the crash.
  DiskArms walked.
-/
import Derived.Test.YtnjcngmmgceijaaDoorDkDo
namespace Go.Proofs.YtnjcngmmgceijaaDoor.Dk

/-- How many of k appends are done where the power goes at the c-th call (never, if c is 0). -/
def done (c k : Nat) : Nat := if c = 0 then k else min k (c - 1)
def bytesUp (d : Nat) : Nm := (List.range d).map UInt8.ofNat
theorem bytesUp_succ (d : Nat) : bytesUp (d + 1) = bytesUp d ++ [UInt8.ofNat d] := by simp [bytesUp, List.range_succ]
theorem bytesUp_len (d : Nat) : (bytesUp d).length = d := by simp [bytesUp]

/-- The disk behind k appends. -/
structure Armed (s : St) (i1 c k : Nat) : Prop where
  room : s.room = 100
  used : s.used = (done c k : Int)
  calls : s.calls = 2 + (done c k : Int)
  names : s.names = upd (fun _ => none) [97] (some i1)
  dur : s.dur = upd (fun _ => none) [97] (some i1)
  since : s.since = []
  file : s.files i1 = ⟨0, bytesUp (done c k), 0⟩
  down : s.down = decide (0 < c ∧ c ≤ k)
  armed : s.armed = ((c - k : Nat) : Int)

theorem Armed.step {s : St} {i1 c k : Nat} (h : Armed s i1 c k) (hk : k < 20) : ∃ s', s.append [97] [UInt8.ofNat k] = (if 0 < c ∧ c ≤ k + 1 then some 9 else none, s') ∧ Armed s' i1 c (k + 1) := by
  by_cases h1 : 0 < c ∧ c ≤ k
  · have hd : s.down = true := by rw [h.down]; exact decide_eq_true h1
    have ha : s.armed = 0 := by rw [h.armed]; omega
    have hdn : done c (k + 1) = done c k := by unfold done; split <;> omega
    rw [if_pos (by omega)]
    refine ⟨s, (Off.mk hd ha).append _ _, ⟨h.room, by rw [hdn]; exact h.used, by rw [hdn]; exact h.calls, h.names, h.dur, h.since, by rw [hdn]; exact h.file, ?_, by rw [ha]; omega⟩⟩
    rw [hd]
    exact (decide_eq_true (by omega)).symm
  · have hd : s.down = false := by rw [h.down]; exact decide_eq_false h1
    by_cases h2 : c = k + 1
    · subst h2
      have hdn : done (k + 1) (k + 1) = done (k + 1) k := by unfold done; split <;> omega
      have hb : s.begin = { s with armed := 0, down := true } := by
        unfold St.begin
        rw [if_pos (by rw [h.armed]; omega), h.armed]
        have e : (((k + 1 - k : Nat) : Int) - 1) = 0 := by omega
        rw [e]
        simp
      refine ⟨{ s with armed := 0, down := true }, ?_, ⟨h.room, by rw [hdn]; exact h.used, by rw [hdn]; exact h.calls, h.names, h.dur, h.since, by rw [hdn]; exact h.file, ?_, ?_⟩⟩
      · unfold St.append
        rw [hb, (Off.mk (s := { s with armed := 0, down := true }) rfl rfl).find, if_pos (by omega)]
      · exact (decide_eq_true (by omega)).symm
      · show (0 : Int) = _
        omega
    · obtain ⟨a, hb, ha⟩ : ∃ a : Int, s.begin = { s with armed := a } ∧ a = ((c - (k + 1) : Nat) : Int) := by
        by_cases hc : c = 0
        · refine ⟨s.armed, ?_, by rw [h.armed]; omega⟩
          unfold St.begin
          rw [if_neg (by rw [h.armed]; omega)]
        · refine ⟨s.armed - 1, ?_, by rw [h.armed]; omega⟩
          unfold St.begin
          rw [if_pos (by rw [h.armed]; omega)]
          have e : decide (s.armed - 1 = 0) = false := decide_eq_false (by rw [h.armed]; omega)
          rw [e, Bool.or_false]
      have hdn : done c (k + 1) = done c k + 1 := by unfold done; split <;> omega
      have hdk : done c k ≤ k := by unfold done; split <;> omega
      have hde : done c k = k := by unfold done; split <;> omega
      rw [if_neg (by omega)]
      refine ⟨{ ({ s with armed := a } : St).setFile i1 { s.files i1 with bytes := (s.files i1).bytes ++ [UInt8.ofNat k] } with used := s.used + 1, calls := s.calls + 1 }, ?_, ⟨h.room, ?_, ?_, h.names, h.dur, h.since, ?_, ?_, ha⟩⟩
      · unfold St.append
        have hf : ({ s with armed := a } : St).find [97] = (none, some i1) := by
          unfold St.find
          show (if s.down then _ else _) = _
          rw [hd]
          show (match s.names [97] with | none => (some 6, none) | some i => (none, some i)) = _
          rw [h.names]
          simp [upd]
        rw [hb, hf]
        simp only
        rw [if_neg (by show ¬ s.room - s.used < _; rw [h.room, h.used]; simp; omega)]
        rfl
      · show s.used + 1 = _
        rw [h.used, hdn]; omega
      · show s.calls + 1 = _
        rw [h.calls, hdn]; omega
      · show (St.setFile _ i1 _).files i1 = _
        rw [setFile_same, h.file, hdn, bytesUp_succ, hde]
      · show s.down = _
        rw [hd]
        exact (decide_eq_false (by omega)).symm
end Go.Proofs.YtnjcngmmgceijaaDoor.Dk

namespace Go.Proofs.YtnjcngmmgceijaaDoor.Dk

theorem Armed.read {s : St} {i1 c k : Nat} (h : Armed s i1 c k) : (s.readOf [97] 0 0).1 = if 0 < c ∧ c ≤ k then some 9 else none := by
  by_cases h1 : 0 < c ∧ c ≤ k
  · rw [if_pos h1]
    exact (Off.mk (h.down.trans (decide_eq_true h1)) (by rw [h.armed]; omega)).read _ _ _
  · rw [if_neg h1]
    unfold St.readOf
    have hf : s.find [97] = (none, some i1) := by
      unfold St.find
      rw [h.down, decide_eq_false h1, h.names]
      simp [upd]
    rw [hf]
    simp only
    rw [if_neg (by omega)]
theorem Armed.crash {s : St} {i1 c k : Nat} (h : Armed s i1 c k) (hk : k ≤ 20) (d : Nat) (hd : done c k = d) (ys : List Nat) (hy : Order (s.settle (pick [0, (d : Int)] 0 s.since.length)) (s.settle (pick [0, (d : Int)] 0 s.since.length)).dur ys) (hs : ∀ x ∈ ys, (s.files x).synced ≤ (s.files x).bytes.length) :
    (s.crash [0, (d : Int)] ys).down = false ∧ (s.crash [0, (d : Int)] ys).find [97] = (none, some i1) ∧ (s.crash [0, (d : Int)] ys).lenOf [97] = (d : Int) ∧ ((s.crash [0, (d : Int)] ys).append [97] []).1 = none := by
  have hdk : d ≤ k := by rw [← hd]; unfold done; split <;> omega
  have hu : ons (s.since.take (pick [0, (d : Int)] 0 s.since.length)) s.dur = upd (fun _ => none) [97] (some i1) := by
    rw [h.since, h.dur]
    simp [ons]
  have hyl : ys = [i1] := by
    obtain ⟨xs, hv, hp, -⟩ := hy
    have hv' : Vals (upd (fun _ => none) [97] (some i1)) xs := by
      rw [← hu]; exact hv
    have e := one_vals (k := [97]) (i := i1) (fun x => by unfold upd; by_cases hx : x = [97] <;> simp [hx]) (by simp [upd]) hv'
    subst e
    exact List.perm_singleton.1 hp
  obtain ⟨a1, a2, a3, a4, a5, a6, a7⟩ := crash_names s [0, (d : Int)] ys
  rw [hu] at a1 a2
  obtain ⟨j, j1, j2, hj⟩ := crash_file s [0, (d : Int)] ys hy hs [97] i1 (by rw [a1]; simp [upd])
  rw [hyl] at j2
  obtain rfl : j = 1 := by simp at j2; omega
  have hpk : pick [0, (d : Int)] 1 ((s.files i1).bytes.length - (s.files i1).synced) = d := by
    rw [h.file]
    simp only [bytesUp_len, hd]
    unfold pick
    rw [if_pos (by simp)]
    show ((d : Int) % (((d - 0 : Nat) : Int) + 1)).toNat = d
    rw [Int.emod_eq_of_lt (by omega) (by omega)]
    omega
  rw [hpk, h.file, hd] at hj
  have vt : V (s.crash [0, (d : Int)] ys) 100 (s.crash [0, (d : Int)] ys).used (s.crash [0, (d : Int)] ys).calls (upd (fun _ => none) [97] (some i1)) (upd (fun _ => none) [97] (some i1)) [] := ⟨by rw [a7, h.room], rfl, rfl, a1, a2, a3, a5, a4⟩
  have hn : upd (fun _ => none) [97] (some i1) [97] = some i1 := by simp [upd]
  have hlen : ((s.crash [0, (d : Int)] ys).files i1).bytes.length = d := by
    rw [hj]
    simp [File.keep, bytesUp_len]
  have hused : (s.crash [0, (d : Int)] ys).used ≤ 100 := by
    have hM := (keepAll_len [0, (d : Int)] 20 ys 1 { (s.settle (pick [0, (d : Int)] 0 s.since.length)) with names := (s.settle (pick [0, (d : Int)] 0 s.since.length)).dur, used := 0 })
    have hk2 : (s.crash [0, (d : Int)] ys).used = (d : Int) := by
      rw [hyl]
      show (0 : Int) + (((s.files i1).synced + pick [0, (d : Int)] 1 ((s.files i1).bytes.length - (s.files i1).synced) : Nat) : Int) = _
      rw [hpk, h.file]
      simp
    omega
  refine ⟨a4, vt.find [97] i1 hn, by rw [(vt.len [97] i1 hn).1, hlen], ?_⟩
  obtain ⟨s', e', -⟩ := vt.append [97] i1 [] hn (by simp; omega)
  rw [e']
end Go.Proofs.YtnjcngmmgceijaaDoor.Dk

namespace Go.Proofs.YtnjcngmmgceijaaDoor
open Go.RowKit Go.Maps

theorem Dk.arms_states (i1 c : Nat) : ∃ s3 s4, (Dk.St.new 100).create [97] i1 = (none, s3) ∧ s3.syncDir = (none, s4) ∧ Dk.Armed ({ s4 with armed := (c : Int) } : Dk.St) i1 c 0 := by
  obtain ⟨s3, e3, v3, f3, -⟩ := (Dk.V.new 100).create [97] i1 (by decide) rfl
  obtain ⟨s4, e4, v4, f4⟩ := v3.syncDir
  have h0 : Dk.done c 0 = 0 := by unfold Dk.done; split <;> omega
  refine ⟨s3, s4, e3, e4, ⟨v4.room, by rw [h0]; exact v4.used, by rw [h0]; exact v4.calls, v4.names, ?_, v4.since, ?_, ?_, by simp⟩⟩
  · show s4.dur = _
    rw [v4.dur]
    simp [Dk.ons, Dk.on_to]
  · show s4.files i1 = _
    rw [f4, f3, h0]
    rfl
  · show s4.down = _
    rw [v4.down]
    exact (decide_eq_false (by omega)).symm
theorem ofNat_B (k : Nat) (hk : k < 256) : B (UInt8.ofNat k) = (k : Int) := by
  unfold B
  simp [UInt8.toNat_ofNat, Nat.mod_eq_of_lt hk]
theorem intsMade2 (w : World) (x : Int) (hx : -9223372036854775808 ≤ x ∧ x ≤ 9223372036854775807) (cs : Array Value) (e : TypeId) (fr : Nat × Nat) (hc : #[Value.int .i64 0, Value.int .i64 x] = cs) : IntsArg (w.alloc (.cells cs e fr)) (some ⟨w.heap.size, 0, none⟩) 2 [0, x] := by
  subst hc
  refine ⟨by simp, by omega, fun h => (by cases h), fun j hj => ⟨w.heap.size, 0, rfl, ?_⟩, fun z hz => ?_⟩
  · rw [World.cell?_alloc_mark]
    match j, hj with
    | 0, _ => rfl
    | 1, _ => rfl
  · simp at hz
    rcases hz with rfl | rfl
    · omega
    · exact hx

set_option maxRecDepth 100000 in
set_option maxHeartbeats 1000000 in
theorem arms_any (w : World) (p : Nat → Addr) (hs : Sents w p) (n m : Int) (hn1 : -9223372036854775808 ≤ n) (hn2 : n ≤ 9223372036854775807) (hm1 : -9223372036854775808 ≤ m) (hm2 : m ≤ 9223372036854775807) :
    Calls Tryd.prog 4 #[.int .i64 n, .int .i64 m] w fun e w' => e = .returned (.bool true) ∧ Below w.heap.size w w' := by
  have hsd : SentsD w p := hs.mono fun j hj => by omega
  have HFI := hide (first_any w p hsd)
  have HS := hide hs
  have HSD := hide hsd
  clear hs hsd
  have HNW := hide (fun W => new_sess 100 W W (Below.refl _ _) (by omega) (by omega))
  have hltN : num n 20 < 20 := num_lt n 20 (by omega)
  have hltC : num m 30 < 30 := num_lt m 30 (by omega)
  obtain ⟨N, hN⟩ : ∃ N, num n 20 = N := ⟨_, rfl⟩
  obtain ⟨c, hc⟩ : ∃ c, num m 30 = c := ⟨_, rfl⟩
  rw [hN] at hltN
  rw [hc] at hltC
  have HNN := hide hN
  have HNC := hide hc
  clear hN hc
  have HST := hide (fun i => Dk.arms_states i c)
  have h00 : Dk.done c 0 = 0 := by unfold Dk.done; split <;> omega
  go_enter Tryd.func4, Tryd.ntmps4
  go_wp2_with (first
    | (go_at_call 8; refine HFI.out.mono ?_; rintro e w1 ⟨rfl, hb1⟩; have HB1 := hide hb1; have HD1 := hide (HSD.out.below hb1); clear hb1)
    | (have := HN1.out; clear this; go_at_call 11; refine (num_at m 30 30 w1 (by omega) (by omega) (by omega) hm1 hm2).mono ?_; rintro e w1' ⟨rfl, rfl⟩; rw [HNC.out])
    | (go_at_call 11; refine (num_at n 20 20 w1 (by omega) (by omega) (by omega) hn1 hn2).mono ?_; rintro e w1' ⟨rfl, rfl⟩; rw [HNN.out]; have HN1 := hide HNN.out)
    | (go_at_call 9; refine (HNW.out w1).mono ?_; rintro e w2 ⟨Bd, rfl, h2, -⟩; obtain ⟨s3, s4, e3, e4, ar⟩ := HST.out w2.heap.size; have H2 := hide h2; have E3 := hide e3; have E4 := hide e4; have HAR := hide ar; clear h2 e3 e4 ar)
    | (go_at_call 12; refine (H2.out.create p HD1.out (by omega) [97] (by decide)).mono ?_; rintro e w3 ⟨rfl, h3⟩; rw [E3.out] at h3 ⊢; have H3 := hide h3; clear h3; simp only [errR])
    | (go_at_call 17; refine (H3.out.syncDir p HD1.out (by omega)).mono ?_; rintro e w4 ⟨rfl, h4⟩; rw [E4.out] at h4 ⊢; have H4 := hide h4; clear h4; simp only [errR])
    | (go_at_call 18; refine (H4.out.arm (c : Int) (by omega)).mono ?_; rintro e w5 ⟨rfl, h5⟩; have H5 := hide h5; clear h5)
    | fail)
  clear HST E3 E4 H2 H3 H4 HNW HFI
  go_loopw [8, 9] (fun dv i wr => ∃ (k : Nat) (s : Dk.St), k ≤ N + 1 ∧ i = .int .i64 k ∧ dv = .int .i64 (Dk.done c k : Nat) ∧ Dk.Armed s w2.heap.size c k ∧ Sess w1 (2 + k) Bd s wr) (fun _ i _ => N + 1 - (intOf i).toNat)
  case atStart => exact ⟨0, _, by omega, rfl, by rw [h00]; rfl, HAR.out, H5.out⟩
  case round =>
    obtain ⟨k, s, hk, rfl, rfl, har, hr⟩ := hrel
    have HR := hide hr
    have HA := hide har
    clear hr har HAR H5 h00
    by_cases hlt : k < N + 1
    · obtain ⟨s', e', har'⟩ := HA.out.step (by omega)
      have HBK := hide (ofNat_B k (by omega))
      have hdk : Dk.done c k ≤ k := by unfold Dk.done; split <;> omega
      by_cases hoff : 0 < c ∧ c ≤ k + 1
      · have hdn : Dk.done c (k + 1) = Dk.done c k := by unfold Dk.done; split <;> omega
        rw [if_pos hoff] at e'
        have hdw : s'.down = true := by rw [har'.down]; exact decide_eq_true hoff
        have HDW := hide hdw
        have HAR' := hide har'
        have HDN := hide hdn
        have E' := hide e'
        clear e' har' hdn hdw
        generalize Dk.done c k = d at *
        have HIS := hide (fun W (hw : Below w.heap.size w W) => is_sent W p (HS.out.below hw) 9 (by decide) 110)
        have hne := eql_nil (p 9)
        simp only [errV] at HIS hne
        go_wp2_with (first
          | (go_at_call 19; refine (HR.out.append p HD1.out (by omega) [97] (by decide) _ _ _ [UInt8.ofNat k] (balloc (Below.refl _ _) _) (argMade wr [UInt8.ofNat k] _ _ _ (by show #[Value.int .u8 (B (UInt8.ofNat k))] = _; rw [HBK.out]) (by simp)) rfl (by simp) (fun x o e _ => by cases e; exact .inr (Nat.le_refl _))).mono ?_; rintro e wx ⟨rfl, hx⟩; rw [E'.out] at hx ⊢; have HX := hide hx; clear hx; simp only [errR, errV])
          | (go_at_call 20; refine (HIS.out wx (HB1.out.trans (HX.out.below.mono HB1.out.size))).mono ?_; rintro e wy ⟨he, hby⟩; rw [decide_eq_true (by decide)] at he; subst he; have HY := hide (HX.out.grow hby); clear hby)
          | (go_at_call 21; refine HY.out.down.mono ?_; rintro e wz ⟨rfl, rfl⟩; rw [HDW.out])
          | fail)
        go_roundw
        case rel => exact ⟨k + 1, s', by omega, by go_num, by rw [HDN.out], HAR'.out, HY.out⟩
        case measure => simp [intOf]; omega
      · have hdn : Dk.done c (k + 1) = Dk.done c k + 1 := by unfold Dk.done; split <;> omega
        rw [if_neg hoff] at e'
        have HAR' := hide har'
        have HDN := hide hdn
        have E' := hide e'
        clear e' har' hdn
        generalize Dk.done c k = d at *
        go_wp2_with (first
          | (go_at_call 19; refine (HR.out.append p HD1.out (by omega) [97] (by decide) _ _ _ [UInt8.ofNat k] (balloc (Below.refl _ _) _) (argMade wr [UInt8.ofNat k] _ _ _ (by show #[Value.int .u8 (B (UInt8.ofNat k))] = _; rw [HBK.out]) (by simp)) rfl (by simp) (fun x o e _ => by cases e; exact .inr (Nat.le_refl _))).mono ?_; rintro e wx ⟨rfl, hx⟩; rw [E'.out] at hx ⊢; have HX := hide hx; clear hx; simp only [errR])
          | fail)
        go_roundw
        case rel => exact ⟨k + 1, s', by omega, by go_num, by rw [HDN.out]; go_num, HAR'.out, HX.out⟩
        case measure => simp [intOf]; omega
    · obtain rfl : k = N + 1 := by omega
      have h3 : c = 0 ∨ (0 < c ∧ c ≤ N + 1) ∨ N + 1 < c := by omega
      obtain ⟨d, hd⟩ : ∃ d, Dk.done c (N + 1) = d := ⟨_, rfl⟩
      have hcl := HA.out.calls
      have hdw := HA.out.down
      have hrd := HA.out.read
      rw [hd] at hcl ⊢
      have HAC := hide (fun ys hy hs => HA.out.crash (by omega) d hd ys hy hs)
      have HCL := hide hcl
      clear hcl
      have HISS := hide (fun W (hw : Below w.heap.size w W) => is_sent W p (HS.out.below hw) 9 (by decide) 110)
      rcases h3 with rfl | h3 | h3
      · have hdd : d = N + 1 := by rw [← hd]; unfold Dk.done; rw [if_pos rfl]
        rw [decide_eq_false (by omega)] at hdw
        rw [if_neg (by omega)] at hrd
        have HDW := hide hdw
        have HRD := hide hrd
        clear hdw hrd hd
        subst hdd
        go_wp2_with (first
          | (go_at_call 21; refine H8.out.down.mono ?_; rintro e wz ⟨rfl, rfl⟩; rw [D1.out])
          | (go_at_call 21; refine H6.out.down.mono ?_; rintro e w6 ⟨rfl, rfl⟩; rw [HDW.out])
          | (go_at_call 21; refine HR.out.down.mono ?_; rintro e wr ⟨rfl, rfl⟩; rw [HDW.out])
          | (go_at_call 22; refine HR.out.callsC.mono ?_; rintro e wr ⟨rfl, rfl⟩; rw [HCL.out])
          | (go_at_call 23; refine (HR.out.read p HD1.out (by omega) [97] (by decide) 0 0 (by omega)).mono ?_; rintro e w6 ⟨v, rfl, -, hb6⟩; rw [HRD.out]; have H6 := hide (HR.out.grow hb6); clear hb6; simp only [errR])
          | (go_at_call 20; refine (is_nil 110 w6).mono ?_; rintro e w7 ⟨he, hb7⟩; rw [decide_eq_false (by decide)] at he; subst he; have H7 := hide (H6.out.grow hb7); clear hb7)
          | (go_at_call 15; refine (H7.out.crash (by omega) _ _ _ [0, ((N + 1 : Nat) : Int)] (balloc (Below.refl _ _) _) (intsMade2 w7 ((N + 1 : Nat) : Int) (by omega) _ _ _ (by first | rfl | simp)) rfl (fun x o e _ => by cases e; exact ⟨.inr (Nat.le_refl _), by simp⟩)).mono ?_; rintro e w8 ⟨rfl, ys, hy, h8⟩; obtain ⟨d1, d2, d3, d4⟩ := HAC.out ys hy (order_ref H7.out.disk _ ys hy); have H8a := hide h8; have D1 := hide d1; have D2 := hide d2; have D3 := hide d3; have D4 := hide d4; clear h8 d1 d2 d3 d4 hy)
          | (go_at_call 24; refine (H8a.out.len p HD1.out [97] (by decide)).mono ?_; rintro e w9 ⟨rfl, q, hq⟩; rw [D3.out, D2.out]; have h9 := H8a.out.drewN q; rw [← hq] at h9; have H8 := hide h9; clear h9 hq; simp only [errR])
          | (go_at_call 19; refine (H8.out.append p HD1.out (by omega) [97] (by decide) none 0 0 [] (Below.refl _ _) ⟨by simp, by omega, fun _ => rfl, .inl rfl⟩ rfl (by omega) (fun x o e _ => by cases e)).mono ?_; rintro e w10 ⟨rfl, h10⟩; rw [D4.out]; have H10 := hide h10.below; clear h10; simp only [errR])
          | fail)
        go_ret
        exact ⟨rfl, HB1.out.trans (H10.out.mono HB1.out.size)⟩
      · have hdd : d = c - 1 := by rw [← hd]; unfold Dk.done; rw [if_neg (by omega)]; omega
        obtain rfl : c = d + 1 := by omega
        rw [decide_eq_true h3] at hdw
        rw [if_pos h3] at hrd
        have HDW := hide hdw
        have HRD := hide hrd
        clear hdw hrd hd hdd
        have hdN : d ≤ N := by omega
        clear h3
        have hmin : min ((N : Int) + 1) (d : Int) = (d : Int) := by omega
        go_wp2_with (first
          | (go_at_call 21; refine H8.out.down.mono ?_; rintro e wz ⟨rfl, rfl⟩; rw [D1.out])
          | (go_at_call 21; refine H6.out.down.mono ?_; rintro e w6 ⟨rfl, rfl⟩; rw [HDW.out])
          | (go_at_call 21; refine HR.out.down.mono ?_; rintro e wr ⟨rfl, rfl⟩; rw [HDW.out])
          | (go_at_call 22; refine HR.out.callsC.mono ?_; rintro e wr ⟨rfl, rfl⟩; rw [HCL.out])
          | (go_at_call 23; refine (HR.out.read p HD1.out (by omega) [97] (by decide) 0 0 (by omega)).mono ?_; rintro e w6 ⟨v, rfl, -, hb6⟩; rw [HRD.out]; have H6 := hide (HR.out.grow hb6); clear hb6; simp only [errR])
          | (go_at_call 20; refine (HISS.out w6 (HB1.out.trans (H6.out.below.mono HB1.out.size))).mono ?_; rintro e w7 ⟨he, hb7⟩; rw [decide_eq_true (by decide)] at he; subst he; have H7 := hide (H6.out.grow hb7); clear hb7)
          | (go_at_call 15; refine (H7.out.crash (by omega) _ _ _ [0, (d : Int)] (balloc (Below.refl _ _) _) (intsMade2 w7 (d : Int) (by omega) _ _ _ (by first | rfl | simp)) rfl (fun x o e _ => by cases e; exact ⟨.inr (Nat.le_refl _), by simp⟩)).mono ?_; rintro e w8 ⟨rfl, ys, hy, h8⟩; obtain ⟨d1, d2, d3, d4⟩ := HAC.out ys hy (order_ref H7.out.disk _ ys hy); have H8a := hide h8; have D1 := hide d1; have D2 := hide d2; have D3 := hide d3; have D4 := hide d4; clear h8 d1 d2 d3 d4 hy)
          | (go_at_call 24; refine (H8a.out.len p HD1.out [97] (by decide)).mono ?_; rintro e w9 ⟨rfl, q, hq⟩; rw [D3.out, D2.out]; have h9 := H8a.out.drewN q; rw [← hq] at h9; have H8 := hide h9; clear h9 hq; simp only [errR])
          | (go_at_call 19; refine (H8.out.append p HD1.out (by omega) [97] (by decide) none 0 0 [] (Below.refl _ _) ⟨by simp, by omega, fun _ => rfl, .inl rfl⟩ rfl (by omega) (fun x o e _ => by cases e)).mono ?_; rintro e w10 ⟨rfl, h10⟩; rw [D4.out]; have H10 := hide h10.below; clear h10; simp only [errR])
          | fail)
        go_ret
        exact ⟨rfl, HB1.out.trans (H10.out.mono HB1.out.size)⟩
      · have hdd : d = N + 1 := by rw [← hd]; unfold Dk.done; rw [if_neg (by omega)]; omega
        rw [decide_eq_false (by omega)] at hdw
        rw [if_neg (by omega)] at hrd
        have HDW := hide hdw
        have HRD := hide hrd
        clear hdw hrd hd
        subst hdd
        have hmin : min ((N : Int) + 1) ((c : Int) - 1) = (N : Int) + 1 := by omega
        go_wp2_with (first
          | (go_at_call 21; refine H8.out.down.mono ?_; rintro e wz ⟨rfl, rfl⟩; rw [D1.out])
          | (go_at_call 21; refine H6.out.down.mono ?_; rintro e w6 ⟨rfl, rfl⟩; rw [HDW.out])
          | (go_at_call 21; refine HR.out.down.mono ?_; rintro e wr ⟨rfl, rfl⟩; rw [HDW.out])
          | (go_at_call 22; refine HR.out.callsC.mono ?_; rintro e wr ⟨rfl, rfl⟩; rw [HCL.out])
          | (go_at_call 23; refine (HR.out.read p HD1.out (by omega) [97] (by decide) 0 0 (by omega)).mono ?_; rintro e w6 ⟨v, rfl, -, hb6⟩; rw [HRD.out]; have H6 := hide (HR.out.grow hb6); clear hb6; simp only [errR])
          | (go_at_call 20; refine (is_nil 110 w6).mono ?_; rintro e w7 ⟨he, hb7⟩; rw [decide_eq_false (by decide)] at he; subst he; have H7 := hide (H6.out.grow hb7); clear hb7)
          | (go_at_call 15; refine (H7.out.crash (by omega) _ _ _ [0, ((N + 1 : Nat) : Int)] (balloc (Below.refl _ _) _) (intsMade2 w7 ((N + 1 : Nat) : Int) (by omega) _ _ _ (by first | rfl | simp)) rfl (fun x o e _ => by cases e; exact ⟨.inr (Nat.le_refl _), by simp⟩)).mono ?_; rintro e w8 ⟨rfl, ys, hy, h8⟩; obtain ⟨d1, d2, d3, d4⟩ := HAC.out ys hy (order_ref H7.out.disk _ ys hy); have H8a := hide h8; have D1 := hide d1; have D2 := hide d2; have D3 := hide d3; have D4 := hide d4; clear h8 d1 d2 d3 d4 hy)
          | (go_at_call 24; refine (H8a.out.len p HD1.out [97] (by decide)).mono ?_; rintro e w9 ⟨rfl, q, hq⟩; rw [D3.out, D2.out]; have h9 := H8a.out.drewN q; rw [← hq] at h9; have H8 := hide h9; clear h9 hq; simp only [errR])
          | (go_at_call 19; refine (H8.out.append p HD1.out (by omega) [97] (by decide) none 0 0 [] (Below.refl _ _) ⟨by simp, by omega, fun _ => rfl, .inl rfl⟩ rfl (by omega) (fun x o e _ => by cases e)).mono ?_; rintro e w10 ⟨rfl, h10⟩; rw [D4.out]; have H10 := hide h10.below; clear h10; simp only [errR])
          | fail)
        go_ret
        exact ⟨rfl, HB1.out.trans (H10.out.mono HB1.out.size)⟩
end Go.Proofs.YtnjcngmmgceijaaDoor
