/- What the laws' walks keep: a layout in a cell and by value, its graph. -/
import Derived.Test.YtpipkbdkkbcooaaLHead
import Derived.Test.YtpipkbdkkbcooaaEMath
namespace Go.Proofs.Ytpipkbdkkbcooaa
open Go.RowKit Fl
set_option maxRecDepth 100000

def GSv (w : World) (B nL DG : Nat) (C : Array Value) (vg : Value) (L : Lay) (W : World) : Prop := GSt w B nL DG C vg L W ∧ LayV W DG (.agg C) L
theorem GSv.step {w : World} {B nL DG : Nat} {C : Array Value} {vg : Value} {L : Lay} {W W' : World} {X : Nat} (h : GSv w B nL DG C vg L W) (hb : Below X W W') (hX : DG ≤ X) : GSv w B nL DG C vg L W' := ⟨h.1.step hb hX, h.2.keep hb hX⟩
theorem GSv.call {w : World} {B nL DG : Nat} {C : Array Value} {vg : Value} {L : Lay} {W W' : World} (h : GSv w B nL DG C vg L W) (hb : Below W.heap.size W W') : GSv w B nL DG C vg L W' := h.step hb h.1.sz
theorem GSv.alloc {w : World} {B nL DG : Nat} {C : Array Value} {vg : Value} {L : Lay} {W : World} (h : GSv w B nL DG C vg L W) (o : Obj) : GSv w B nL DG C vg L (W.alloc o) := h.call ((Below.refl _ _).alloc (Nat.le_refl _) o)
theorem GSv.drewN {w : World} {B nL DG : Nat} {C : Array Value} {vg : Value} {L : Lay} {W : World} (h : GSv w B nL DG C vg L W) (n : Nat) : GSv w B nL DG C vg L (W.drewN n) := h.step (X := DG) (Below.drewN (Below.refl _ _) n) (Nat.le_refl _)

theorem LayV.part_at {W : World} {D n0 n1 n2 n3 n4 c0 c1 c2 c3 c4 : Nat} {A0 A1 A2 A3 A4 : Option Addr} {t0 t1 t2 t3 t4 : Int} {L : Lay}
    (h : LayV W D (.agg #[.slice A0 n0 c0, .slice A1 n1 c1, .slice A2 n2 c2, .slice A3 n3 c3, .slice A4 n4 c4, .int .i64 t0, .int .i64 t1, .int .i64 t2, .int .i64 t3, .int .i64 t4]) L) (i : Nat) (hi : i < L.parts.length) :
    ∃ b o u, A2 = some ⟨b, o, none⟩ ∧ W.cell? ⟨b, o + i, none⟩ = some u ∧ Rd W D u (ivals L.parts[i]) := by
  obtain ⟨vN, vS, vP, vQ, vR, ps, hv, hd⟩ := h
  obtain ⟨vs, hr, hl, he⟩ := hd.p
  injection hv with hv
  have e : vP = .slice A2 n2 c2 := by
    have := congrArg (fun x : Array Value => x[2]?) hv
    simpa using this.symm
  subst e
  obtain ⟨A', c', e', h0, hx⟩ := hr
  injection e' with e1 e2 e3
  subst e1 e3
  obtain ⟨b, o, hA, hb, hc⟩ := hx (by omega)
  exact ⟨b, o, vs[i], hA, hc i _ (List.getElem?_eq_getElem (by omega)), he i (by omega) hi⟩
theorem LayV.sec_at {W : World} {D n0 n1 n2 n3 n4 c0 c1 c2 c3 c4 : Nat} {A0 A1 A2 A3 A4 : Option Addr} {t0 t1 t2 t3 t4 : Int} {L : Lay}
    (h : LayV W D (.agg #[.slice A0 n0 c0, .slice A1 n1 c1, .slice A2 n2 c2, .slice A3 n3 c3, .slice A4 n4 c4, .int .i64 t0, .int .i64 t1, .int .i64 t2, .int .i64 t3, .int .i64 t4]) L) (i : Nat) (hi : i < L.secs.length) :
    ∃ b o, A1 = some ⟨b, o, none⟩ ∧ W.cell? ⟨b, o + i * 3, none⟩ = some (.int .i64 L.secs[i].1) := by
  obtain ⟨vN, vS, vP, vQ, vR, ps, hv, hd⟩ := h
  injection hv with hv
  have e : vS = .slice A1 n1 c1 := by
    have := congrArg (fun x : Array Value => x[1]?) hv
    simpa using this.symm
  subst e
  obtain ⟨A', c', e', hx⟩ := hd.s
  injection e' with e1 e2 e3
  subst e1 e3
  obtain ⟨b, o, hA, hb, hc⟩ := hx (by omega)
  exact ⟨b, o, hA, (hc i hi).1⟩

end Go.Proofs.Ytpipkbdkkbcooaa
