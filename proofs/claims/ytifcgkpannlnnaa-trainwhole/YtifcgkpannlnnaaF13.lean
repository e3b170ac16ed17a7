/- What the walk of a law keeps: two acts, a layout, its graph, a register. -/
import Derived.Test.YtifcgkpannlnnaaF12
namespace Go.Proofs.Ytifcgkpannlnnaa
open Go.RowKit Fl Go.Maps
set_option maxRecDepth 100000

/-- Two acts in their cells, a layout in its cell, its graph, a register; all but the map lies below 'B'. -/
structure TSt (w : World) (B g1 g2 nL DG rb mb : Nat) (cl c1 c2 : Array Value) (vg : Value) (L : Lay) (n : Nat) (m : Mp) (W : World) : Prop where
  bel : Below w.heap.size w W
  r1 : Row W g1 28 c1
  r2 : Row W g2 28 c2
  rl : Row W nL 36 cl
  gr : IsGr W DG vg L
  lay : LayV W DG (.agg cl) L
  reg : Reg W rb mb n m
  s0 : w.heap.size ≤ B
  s1 : g1 < B
  s2 : g2 < B
  sl : nL < B
  sg : DG ≤ B
  sw : B ≤ W.heap.size
  sm : B ≤ mb

theorem TSt.call {w : World} {B g1 g2 nL DG rb mb : Nat} {cl c1 c2 : Array Value} {vg : Value} {L : Lay} {n : Nat} {m : Mp} {W W' : World} (h : TSt w B g1 g2 nL DG rb mb cl c1 c2 vg L n m W) (hb : Below W.heap.size W W') : TSt w B g1 g2 nL DG rb mb cl c1 c2 vg L n m W' :=
  ⟨h.bel.trans (hb.mono (Nat.le_trans h.s0 h.sw)), Below.row hb h.r1 h.r1.lt, Below.row hb h.r2 h.r2.lt, Below.row hb h.rl h.rl.lt, h.gr.keep hb (Nat.le_trans h.sg h.sw), h.lay.keep hb (Nat.le_trans h.sg h.sw), h.reg.up hb, h.s0, h.s1, h.s2, h.sl, h.sg, Nat.le_trans h.sw hb.size, h.sm⟩

theorem TSt.turn {w : World} {B g1 g2 nL DG rb mb : Nat} {cl c1 c2 : Array Value} {vg : Value} {L : Lay} {n n' : Nat} {m m' : Mp} {W W' : World} (h : TSt w B g1 g2 nL DG rb mb cl c1 c2 vg L n m W) (hk : KeptL [mb] W W') (hr : Reg W' rb mb n' m') : TSt w B g1 g2 nL DG rb mb cl c1 c2 vg L n' m' W' := by
  have hb : Below B W W' := hk.below h.sw (by intro k hk; simp at hk; subst hk; exact h.sm)
  exact ⟨h.bel.trans (hb.mono h.s0), Below.row hb h.r1 h.s1, Below.row hb h.r2 h.s2, Below.row hb h.rl h.sl, h.gr.keep hb h.sg, h.lay.keep hb h.sg, hr, h.s0, h.s1, h.s2, h.sl, h.sg, Nat.le_trans h.sw hb.size, h.sm⟩

/-- A report that is read again: its trail in a world later on. -/
theorem TSt.kept {w : World} {B g1 g2 nL DG rb mb : Nat} {cl c1 c2 : Array Value} {vg : Value} {L : Lay} {n : Nat} {m : Mp} {W W' : World} {v : Value} {T : List Int} (h : TSt w B g1 g2 nL DG rb mb cl c1 c2 vg L n m W) (hT : Rd W W.heap.size v (ivals T)) (hk : KeptL [mb] W W') : Rd W' W'.heap.size v (ivals T) := by
  obtain ⟨es, ck, hm⟩ := h.reg.is
  exact rd_map hT hk hm

/-- A cell of the first act is written over. -/
theorem TSt.set1 {w : World} {B g1 g2 nL DG rb mb : Nat} {cl c1 c2 c1' : Array Value} {vg : Value} {L : Lay} {n : Nat} {m : Mp} {W : World} (h : TSt w B g1 g2 nL DG rb mb cl c1 c2 vg L n m W) (i : Nat) (u : Value) (k : KN W (W.setCell ⟨g1, i, none⟩ u)) (hc : Row (W.setCell ⟨g1, i, none⟩ u) g1 28 c1')
    (h12 : g1 ≠ g2) (h1L : nL ≠ g1) (hw : w.heap.size ≤ g1) (hrb : B ≤ rb) : TSt w B g1 g2 nL DG rb mb cl c1' c2 vg L n m (W.setCell ⟨g1, i, none⟩ u) := by
  have hs : (W.setCell ⟨g1, i, none⟩ u).heap.size = W.heap.size := by simp
  have h1 := h.s1; have h2 := h.sm
  exact ⟨h.bel.setCell (p := ⟨g1, i, none⟩) hw _, hc, h.r2.far (p := ⟨g1, i, none⟩) (Ne.symm h12) _, h.rl.far (p := ⟨g1, i, none⟩) h1L _, h.gr.kn h.r1 u k, h.lay.kn k, h.reg.kn u k (by omega) (by omega), h.s0, h.s1, h.s2, h.sl, h.sg, by rw [hs]; exact h.sw, h.sm⟩
/-- A cell of the second act is written over. -/
theorem TSt.set2 {w : World} {B g1 g2 nL DG rb mb : Nat} {cl c1 c2 c2' : Array Value} {vg : Value} {L : Lay} {n : Nat} {m : Mp} {W : World} (h : TSt w B g1 g2 nL DG rb mb cl c1 c2 vg L n m W) (i : Nat) (u : Value) (k : KN W (W.setCell ⟨g2, i, none⟩ u)) (hc : Row (W.setCell ⟨g2, i, none⟩ u) g2 28 c2')
    (h12 : g1 ≠ g2) (h1L : nL ≠ g2) (hw : w.heap.size ≤ g2) (hrb : B ≤ rb) : TSt w B g1 g2 nL DG rb mb cl c1 c2' vg L n m (W.setCell ⟨g2, i, none⟩ u) := by
  have hs : (W.setCell ⟨g2, i, none⟩ u).heap.size = W.heap.size := by simp
  have h1 := h.s2; have h2 := h.sm
  exact ⟨h.bel.setCell (p := ⟨g2, i, none⟩) hw _, h.r1.far (p := ⟨g2, i, none⟩) h12 _, hc, h.rl.far (p := ⟨g2, i, none⟩) h1L _, h.gr.kn h.r2 u k, h.lay.kn k, h.reg.kn u k (by omega) (by omega), h.s0, h.s1, h.s2, h.sl, h.sg, by rw [hs]; exact h.sw, h.sm⟩
theorem row_types {W : World} {a b : Nat} {t t' : TypeId} {cs cs' : Array Value} (h1 : Row W a t cs) (h2 : Row W b t' cs') (ht : t ≠ t') : a ≠ b := by
  rintro rfl
  unfold Row at h1 h2
  rw [h1] at h2
  injection h2 with h2
  injection h2 with _ h3
  exact ht h3

end Go.Proofs.Ytifcgkpannlnnaa
