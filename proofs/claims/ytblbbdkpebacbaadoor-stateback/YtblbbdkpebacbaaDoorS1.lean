/- What the walks of the laws keep. -/
import Derived.Test.YtblbbdkpebacbaaDoorQ1
import Derived.Test.YtblbbdkpebacbaaDoorT1
import Derived.Deep.RegionHeld3
namespace Go.Proofs.YtblbbdkpebacbaaDoor
open Go.RowKit Fl
set_option maxRecDepth 100000

structure LSt (w : World) (n1 nL : Nat) (fd cl : Array Value) (va vb : Value) (Ao Ac Av : Option Addr) (co cc cv : Nat) (f : Fd) (L : Lay) (xs : List Vw) (W : World) : Prop where
  bel : Below w.heap.size w W
  rf : Row W n1 30 fd
  rl : Row W nL 39 cl
  lay : LayV W W.heap.size (.agg cl) L
  fv : FdV W W.heap.size Ao Ac Av co cc cv f
  va : Vws W W.heap.size va xs
  vb : Vws W W.heap.size vb xs
theorem LSt.call {w : World} {n1 nL : Nat} {fd cl : Array Value} {va vb : Value} {Ao Ac Av : Option Addr} {co cc cv : Nat} {f : Fd} {L : Lay} {xs : List Vw} {W W' : World} (h : LSt w n1 nL fd cl va vb Ao Ac Av co cc cv f L xs W) (hb : Below W.heap.size W W') : LSt w n1 nL fd cl va vb Ao Ac Av co cc cv f L xs W' :=
  ⟨h.bel.trans (hb.mono h.bel.size), Below.row hb h.rf h.rf.lt, Below.row hb h.rl h.rl.lt, h.lay.up hb, h.fv.up hb, h.va.up hb, h.vb.up hb⟩

/-- The facts on a layout. -/
structure LayG (L : Lay) : Prop where
  fits : Fits L
  wf : ∀ p ∈ L.parts, Wf p
  secs : 0 < L.secs.length ∧ L.secs.length ≤ 100
theorem full_g (d : Dr) : LayG (fullL d) := ⟨fullL_fits d, full_wf d, (full_secs d).1, (fullL_fits d).s⟩

theorem few_ok {f : Fd} (h : fewB f = true) : f.vws.length ≤ 6 ∧ ∀ v ∈ f.vws, v.2.2.length ≤ 14 := by
  unfold fewB at h
  rw [Bool.and_eq_true, List.all_eq_true, decide_eq_true_iff] at h
  exact ⟨h.2, fun v hv => by simpa using h.1 v hv⟩
theorem views_ok {f : Fd} {L : Lay} (g : LayG L) (h : fewB f = true) : OkV (viewsO L.secs.length f.vws) := by
  have hf := few_ok h
  exact viewsO_ok g.secs.1 (by have := g.secs.2; omega) (by omega) (fun k hk => by have := hf.2 k hk; omega)

theorem LSt.owners {w : World} {n1 nL : Nat} {cl : Array Value} {va vb : Value} {Ao Ac Av : Option Addr} {no nc nv co cc cv : Nat} {f : Fd} {L : Lay} {xs : List Vw} {W : World} (h : LSt w n1 nL (fcells Ao Ac Av no nc nv co cc cv) cl va vb Ao Ac Av co cc cv f L xs W) (g : LayG L) (hn : f.own.length = no) (hok : FdOk f) :
    Calls Tryd.prog 17 #[.agg cl, .agg (fcells Ao Ac Av no nc nv co cc cv)] W (RetRd (ivals (ownersL f L.parts.length)) W) :=
  owners_any W _ L Ao Ac Av no nc nv co cc cv f h.lay g.fits (by have := h.fv.own; rw [hn] at this; exact this) hn hok
end Go.Proofs.YtblbbdkpebacbaaDoor
