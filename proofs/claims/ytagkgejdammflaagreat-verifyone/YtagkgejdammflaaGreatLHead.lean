/- What the laws' walks keep: a layout in a cell, its graph. -/
import Derived.Test.YtagkgejdammflaaGreatNA
namespace Go.Proofs.YtagkgejdammflaaGreat
open Go.RowKit Fl
set_option maxRecDepth 100000

theorem LayV.lens {w : World} {D : Nat} {v : Value} {L : Lay} (h : LayV w D v L) : ∃ A0 k0 c0 A1 k1 c1 A2 k2 c2 A3 k3 c3 A4 k4 c4 t0 t1 t2 t3 t4, v = .agg #[.slice A0 k0 c0, .slice A1 k1 c1, .slice A2 k2 c2, .slice A3 k3 c3, .slice A4 k4 c4, .int .i64 t0, .int .i64 t1, .int .i64 t2, .int .i64 t3, .int .i64 t4] ∧ L.nodes.length = k0 ∧ L.secs.length = k1 ∧ L.parts.length = k2 ∧ L.points.length = k3 := by
  obtain ⟨vN, vS, vP, vQ, vR, ps, rfl, hd⟩ := h
  obtain ⟨⟨A0, c0, rfl⟩, ⟨A1, c1, rfl⟩, ⟨A2, c2, rfl⟩, ⟨A3, c3, rfl⟩, ⟨A4, c4, rfl⟩⟩ := hd.slices
  exact ⟨A0, _, c0, A1, _, c1, A2, _, c2, A3, _, c3, A4, _, c4, _, _, _, _, _, rfl, rfl, rfl, rfl, rfl⟩

/-- The layout's cell, its graph. -/
structure GSt (w : World) (B nL DG : Nat) (C : Array Value) (vg : Value) (L : Lay) (W : World) : Prop where
  bel : Below B w W
  row : Row W nL 33 C
  gr : IsGr W DG vg L
  sz : DG ≤ W.heap.size
  b : B ≤ DG
  nl : nL < DG

theorem GSt.step {w : World} {B nL DG : Nat} {C : Array Value} {vg : Value} {L : Lay} {W W' : World} {X : Nat} (h : GSt w B nL DG C vg L W) (hb : Below X W W') (hX : DG ≤ X) : GSt w B nL DG C vg L W' :=
  ⟨h.bel.trans (hb.mono (Nat.le_trans h.b hX)), Below.row hb h.row (Nat.lt_of_lt_of_le h.nl hX), h.gr.keep hb hX, Nat.le_trans h.sz hb.size, h.b, h.nl⟩
theorem GSt.call {w : World} {B nL DG : Nat} {C : Array Value} {vg : Value} {L : Lay} {W W' : World} (h : GSt w B nL DG C vg L W) (hb : Below W.heap.size W W') : GSt w B nL DG C vg L W' := h.step hb h.sz
theorem GSt.alloc {w : World} {B nL DG : Nat} {C : Array Value} {vg : Value} {L : Lay} {W : World} (h : GSt w B nL DG C vg L W) (o : Obj) : GSt w B nL DG C vg L (W.alloc o) := h.call ((Below.refl _ _).alloc (Nat.le_refl _) o)
theorem Below.drewN {B : Nat} {a w : World} (h : Below B a w) (n : Nat) : Below B a (w.drewN n) := ⟨h.os, h.tape, h.output, h.size, h.block⟩
theorem GSt.drewN {w : World} {B nL DG : Nat} {C : Array Value} {vg : Value} {L : Lay} {W : World} (h : GSt w B nL DG C vg L W) (n : Nat) : GSt w B nL DG C vg L (W.drewN n) := h.step (X := DG) (Below.drewN (Below.refl _ _) n) (Nat.le_refl _)
theorem Prs.drewN {w : World} {D : Nat} {v : Value} {xs : List (Int × Int)} (h : Prs w D v xs) (n : Nat) : Prs (w.drewN n) D v xs := h.mono (Nat.le_refl _) (fun _ _ => rfl)
theorem contains_take_succ (ys : List (Int × Int)) (e : Int × Int) (j : Nat) (h : j < ys.length) : (ys.take (j + 1)).contains e = ((ys.take j).contains e || (ys[j] == e)) := by
  rw [List.take_succ_eq_append_getElem h, List.contains_eq_any_beq, List.contains_eq_any_beq, List.any_append]
  have : (e == ys[j]) = (ys[j] == e) := by rw [Bool.eq_iff_iff, beq_iff_eq, beq_iff_eq]; exact eq_comm
  rw [List.any_cons, List.any_nil, Bool.or_false, this]

end Go.Proofs.YtagkgejdammflaaGreat
