/-
  Package seg's statements: a Read of a segment made of batches; the chapter's examples.
-/
import Derived.Test.YtcmgppacipdnaaaGreatDoorQ37
import Derived.Test.YtcmgppacipdnaaaGreatDoorQ34
namespace Go.Proofs.YtcmgppacipdnaaaGreatDoor
open Go.RowKit Go.Maps Go.Sort

theorem good_cut {b : Rc.Bat} (g : Rc.Good b) (o : Int) (q : Nat) (hq : q < b.recs.length) (ho : o = b.base + q) : Rc.Good (cutB b o q) := by
  have hl : (cutB b o q).recs.length = b.recs.length - q := by simp [cutB]
  have g1 := g.n1
  have g2 := g.base0
  have g3 := g.base1
  refine ⟨by omega, by omega, ?_, ?_, g.ep0, g.ep1, fun r hr => g.recs r (List.mem_of_mem_drop hr)⟩
  · show 0 ≤ o; omega
  · show o + ((cutB b o q).recs.length : Int) ≤ _; omega
theorem bytes_most (b : Rc.Bat) (g : Rc.Good b) : (Rc.bytes b).length ≤ 100000 := by
  have h := Rc.bytes_le b g 64 512 (by omega) (by omega) fun r hr => ⟨(g.recs r hr).2.2.1, (g.recs r hr).2.2.2⟩
  have h2 := g.n1
  omega
theorem cnt_le (l : List Sg.Edge) (P : Sg.Edge → Bool) : Sg.cnt l P ≤ l.length := by
  unfold Sg.cnt
  have h := List.countP_le_length (p := fun i => !P (Sg.ed l i)) (l := List.range l.length)
  rwa [List.length_range] at h
/-- What a Read of a segment made of batches finds: from the k-th batch on, its q-th record. -/
theorem Md.read {d : Dk.St} {s s0 : Sg.St} {room used : Int} {names : Dk.Dir} {x : Nat} {bs : List Rc.Bat} (h : Md d s room used names s0 x bs) (hl : (bs.flatMap Rc.bytes).length ≤ 1000000) (o most : Int) (k q : Nat) (hk : k < bs.length) (hq : o = bs[k].base + q) (hql : q < bs[k].recs.length) :
    ∃ f fin : Nat, f = Sg.cnt s.edges (fun e => decide (most < e.pos - ((Sg.ed s.edges (k + 1)).pos - (Rc.bytes (cutB bs[k] o q)).length))) ∧ (fin : Int) = max ((k : Int) + 1) ((f : Int) - 1) ∧ fin ≤ bs.length ∧ ReadH d s o most k q f fin bs[k] ((bs.drop (k + 1)).take (fin - (k + 1))) := by
  have hg := good_cut (h.good bs[k] (List.getElem_mem hk)) o q hql hq
  have hc := cnt_le s.edges (fun e => decide (most < e.pos - ((Sg.ed s.edges (k + 1)).pos - (Rc.bytes (cutB bs[k] o q)).length)))
  rw [h.len] at hc
  obtain ⟨fin, hfin⟩ : ∃ fin : Nat, (fin : Int) = max ((k : Int) + 1) (((Sg.cnt s.edges (fun e => decide (most < e.pos - ((Sg.ed s.edges (k + 1)).pos - (Rc.bytes (cutB bs[k] o q)).length)))) : Int) - 1) := ⟨(max ((k : Int) + 1) (((Sg.cnt s.edges (fun e => decide (most < e.pos - ((Sg.ed s.edges (k + 1)).pos - (Rc.bytes (cutB bs[k] o q)).length)))) : Int) - 1)).toNat, by omega⟩
  have hfl : fin ≤ bs.length := by omega
  refine ⟨_, fin, rfl, hfin, hfl, ?_⟩
  have e := h.seg
  have hsz := bytes_most _ hg
  subst e
  exact read_adds d s0 h.one h.zero bs h.chain h.good hl x (h.has.find _ _ h.nm) h.bytes o most k q _ fin hk hq hql ((Rc.bad_good _).2 hg) (by omega) rfl hfin hfl

end Go.Proofs.YtcmgppacipdnaaaGreatDoor
