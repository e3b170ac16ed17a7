/- For GraphPaths: a layout in a cell and by value. -/
import Derived.Test.YtpipkbdkkbcooaaR8
namespace Go.Proofs.Ytpipkbdkkbcooaa
open Go.RowKit Fl
set_option maxRecDepth 100000

structure PSt (w : World) (B nL DG : Nat) (C : Array Value) (L : Lay) (W : World) : Prop where
  bel : Below B w W
  row : Row W nL 35 C
  lay : LayV W DG (.agg C) L
  sz : DG ≤ W.heap.size
  b : B ≤ DG
  nl : nL < DG
theorem PSt.step {w : World} {B nL DG : Nat} {C : Array Value} {L : Lay} {W W' : World} {X : Nat} (h : PSt w B nL DG C L W) (hb : Below X W W') (hX : DG ≤ X) : PSt w B nL DG C L W' :=
  ⟨h.bel.trans (hb.mono (Nat.le_trans h.b hX)), Below.row hb h.row (Nat.lt_of_lt_of_le h.nl hX), h.lay.keep hb hX, Nat.le_trans h.sz hb.size, h.b, h.nl⟩
theorem PSt.call {w : World} {B nL DG : Nat} {C : Array Value} {L : Lay} {W W' : World} (h : PSt w B nL DG C L W) (hb : Below W.heap.size W W') : PSt w B nL DG C L W' := h.step hb h.sz
theorem PSt.drewN {w : World} {B nL DG : Nat} {C : Array Value} {L : Lay} {W : World} (h : PSt w B nL DG C L W) (n : Nat) : PSt w B nL DG C L (W.drewN n) := h.step (X := DG) (Below.drewN (Below.refl _ _) n) (Nat.le_refl _)
theorem PSt.set {w : World} {B nL DG : Nat} {C : Array Value} {L : Lay} {W : World} (h : PSt w B nL DG C L W) (p : Addr) (hp : DG ≤ p.block) (u : Value) : PSt w B nL DG C L (W.setCell p u) := h.step (X := DG) ((Below.refl DG W).setCell (p := p) hp u) (Nat.le_refl _)
theorem PSt.up {w : World} {B nL DG : Nat} {C : Array Value} {L : Lay} {W : World} (h : PSt w B nL DG C L W) : LayV W W.heap.size (.agg C) L := h.lay.mono h.sz (fun _ _ => rfl)

/-- A slice of numbers in a block of its own, of which one is set. -/
theorem own_put {w : World} {g cap I : Nat} {p : List Int} {cur : Array Value} (O : Int) (h : w.ownsRow 0 3 1 (.slice (some ⟨g, 0, none⟩) p.length cap) p.length (ivals p)) (hh : w.heap[g]? = some (.cells cur 3 (0, 0))) (hI : I < p.length) :
    w.cell? ⟨g, I, none⟩ = some (.int .i64 p[I]) ∧ Rd (w.setCell ⟨g, I, none⟩ (.int .i64 O)) (w.setCell ⟨g, I, none⟩ (.int .i64 O)).heap.size (.slice (some ⟨g, 0, none⟩) p.length cap) (ivals (p.set I O)) := by
  have hr : Row w g 3 cur := hh
  have hc : ∀ j (hj : j < p.length), cur[j]? = some (.int .i64 p[j]) := fun j hj => own_cur h hh j _ (by simp [ivals, hj])
  have hset := hr.set I (.int .i64 O)
  refine ⟨by rw [hr.cell I, hc I hI], ?_⟩
  have hcap := own_cap h
  refine ⟨some ⟨g, 0, none⟩, cap, by simp [ivals], ⟨(fun e => by cases e), by simp [ivals]; exact hcap⟩, fun _ => ⟨g, 0, rfl, hset.lt, fun j u hu => ?_⟩⟩
  rw [Nat.zero_add, hset.cell j]
  have hj : j < p.length := by have := (List.getElem?_eq_some_iff.1 hu).1; simpa [ivals] using this
  have hs : I < cur.size := by
    have := hc I hI
    exact (Array.getElem?_eq_some_iff.1 this).1
  by_cases e : j = I
  · subst e
    have e2 : u = .int .i64 O := by simpa [ivals, hj] using hu.symm
    rw [e2, Array.getElem?_setIfInBounds_self, if_pos hs]
  · rw [Array.getElem?_setIfInBounds_ne (fun h => e h.symm), hc j hj]
    have e2 : (p.set I O)[j]? = some p[j] := by rw [List.getElem?_set_ne (fun h => e h.symm)]; exact List.getElem?_eq_getElem hj
    rw [← hu]
    unfold ivals
    rw [List.getElem?_map, e2]; rfl

end Go.Proofs.Ytpipkbdkkbcooaa
