/- What the walks of the laws keep: a spot, a layout, its graph, a train. -/
import Derived.Test.YtbomkifnhkmkoaaC3
namespace Go.Proofs.Ytbomkifnhkmkoaa
open Go.RowKit Fl
set_option maxRecDepth 100000

/-- A trail that a spot has: none twice, each a section, it may go on. -/
structure Tra (L : Lay) (T : List Int) (dv : Int) : Prop where
  pos : 0 < T.length
  le : T.length ≤ 5
  nd : T.Nodup
  inr : ∀ y ∈ T, InR L y
  ok : okE L (T.getD 0 0, dv)

theorem rep_tra {L : Lay} (T : Tame L) (fr mo : Nat) (ts : List Nat) (hs : 0 < L.secs.length) (hfr : fr < 256) : Tra L (repT L fr mo ts) (1 - ((fr / 128 : Nat) : Int)) := by
  have hX : fr % L.secs.length < L.secs.length := Nat.mod_lt _ hs
  have hw := walkGo_thru T ts (1 + mo % 5) ((fr / 128 : Nat) : Int) (1 + mo % 5) 0 [((fr % L.secs.length : Nat) : Int)] (((fr % L.secs.length : Nat) : Int), ((fr / 128 : Nat) : Int)) (by simp) (by simp) ⟨_, rfl, hX, by omega⟩ (by intro x hx; simp only [List.mem_singleton] at hx; exact ⟨_, hx, hX⟩) rfl
  have hh := walkGo_head L ts (1 + mo % 5) (1 + mo % 5) 0 [((fr % L.secs.length : Nat) : Int)] (((fr % L.secs.length : Nat) : Int), ((fr / 128 : Nat) : Int)) (by simp)
  have hl := walkL_len L ((fr % L.secs.length : Nat) : Int) ((fr / 128 : Nat) : Int) ts (1 + mo % 5) (by omega)
  exact ⟨hh.2, Nat.le_trans hl (by omega), hw.1, hw.2.1, ⟨fr % L.secs.length, by rw [show (repT L fr mo ts).getD 0 0 = ((fr % L.secs.length : Nat) : Int) from hh.1], hX, by show 1 - ((fr / 128 : Nat) : Int) = 0 ∨ 1 - ((fr / 128 : Nat) : Int) = 1; omega⟩⟩

structure CSt (w : World) (n1 nL nT nR : Nat) (sp cl tv : Array Value) (vg : Value) (DG : Nat) (L : Lay) (At : Option Addr) (ct : Nat) (T : List Int) (Ar : Option Addr) (cr : Nat) (R : List Bool) (W : World) : Prop where
  bel : Below w.heap.size w W
  rs : Row W n1 29 sp
  rl : Row W nL 37 cl
  rt : Row W nT 40 tv
  rr : Row W nR 41 tv
  lay : LayV W W.heap.size (.agg cl) L
  gr : IsGr W DG vg L
  tr : Rd W W.heap.size (.slice At T.length ct) (ivals T)
  ri : Rd W W.heap.size (.slice Ar R.length cr) (cvals R)
  dg : DG ≤ W.heap.size

theorem CSt.call {w : World} {n1 nL nT nR : Nat} {sp cl tv : Array Value} {vg : Value} {DG : Nat} {L : Lay} {At : Option Addr} {ct : Nat} {T : List Int} {Ar : Option Addr} {cr : Nat} {R : List Bool} {W W' : World} (h : CSt w n1 nL nT nR sp cl tv vg DG L At ct T Ar cr R W) (hb : Below W.heap.size W W') : CSt w n1 nL nT nR sp cl tv vg DG L At ct T Ar cr R W' :=
  ⟨h.bel.trans (hb.mono h.bel.size), Below.row hb h.rs h.rs.lt, Below.row hb h.rl h.rl.lt, Below.row hb h.rt h.rt.lt, Below.row hb h.rr h.rr.lt, h.lay.up hb, h.gr.keep hb h.dg, h.tr.up hb, h.ri.up hb, Nat.le_trans h.dg hb.size⟩

/-- The facts on a layout. -/
structure LayF (L : Lay) : Prop where
  fits : Fits L
  tame : Tame L
  secs : 0 < L.secs.length ∧ ∀ n : Nat, n < L.secs.length → 0 < lenL L.secs (n : Int) ∧ lenL L.secs (n : Int) ≤ 1000
theorem full_f (d : Dr) : LayF (fullL d) := ⟨fullL_fits d, tame_full d, full_secs d⟩

theorem CSt.span {w : World} {n1 nL nT nR : Nat} {sp cl : Array Value} {a b c dv e : Int} {vg : Value} {DG : Nat} {L : Lay} {At : Option Addr} {ct : Nat} {T : List Int} {Ar : Option Addr} {cr : Nat} {R : List Bool} {W : World}
    (h : CSt w n1 nL nT nR sp cl (tcells a b c dv e (.slice At T.length ct)) vg DG L At ct T Ar cr R W) (F : LayF L) (ht : Tra L T dv) (now s : Int) (hs : 0 ≤ s ∧ s ≤ 1000000) (hd : 0 ≤ now - b ∧ now - b ≤ 1000000000000) (he : 0 ≤ e ∧ e ≤ 1000000000000) :
    Calls Try.prog 15 #[vg, .agg (tcells a b c dv e (.slice At T.length ct)), .int .i64 now, .int .i64 s, .slice Ar R.length cr] W (RetOwn W.heap.size (spanL L R T dv (s * (now - b) - e)) W) :=
  prog_span W DG vg L a b c dv e At ct T now s Ar cr R h.gr h.dg F.fits F.tame F.secs.2 h.tr (by have := ht.le; omega) h.ri (by have := ht.pos; omega) ht.ok hs hd he
theorem CSt.front {w : World} {n1 nL nT nR : Nat} {sp cl : Array Value} {a b c dv e : Int} {vg : Value} {DG : Nat} {L : Lay} {At : Option Addr} {ct : Nat} {T : List Int} {Ar : Option Addr} {cr : Nat} {R : List Bool} {W : World}
    (h : CSt w n1 nL nT nR sp cl (tcells a b c dv e (.slice At T.length ct)) vg DG L At ct T Ar cr R W) (F : LayF L) (ht : Tra L T dv) (now s : Int) (hs : 0 ≤ s ∧ s ≤ 1000000) (hd : 0 ≤ now - b ∧ now - b ≤ 1000000000000) (he : 0 ≤ e ∧ e ≤ 1000000000000) :
    Calls Try.prog 16 #[vg, .agg (tcells a b c dv e (.slice At T.length ct)), .int .i64 now, .int .i64 s, .slice Ar R.length cr] W fun x w' => x = .returned (.agg #[.int .i64 (aheadL L R T dv (s * (now - b) - e)).2.1, .int .i64 (aheadL L R T dv (s * (now - b) - e)).2.2]) ∧ Below W.heap.size W w' :=
  prog_front W DG vg L a b c dv e At ct T now s Ar cr R h.gr h.dg F.fits F.tame F.secs.2 h.tr (by have := ht.le; omega) h.ri (by have := ht.pos; omega) ht.ok hs hd he
theorem CSt.refSpan {w : World} {n1 nL nT nR : Nat} {sp cl : Array Value} {a b c dv e : Int} {vg : Value} {DG : Nat} {L : Lay} {At : Option Addr} {ct : Nat} {T : List Int} {Ar : Option Addr} {cr : Nat} {R : List Bool} {W : World}
    (h : CSt w n1 nL nT nR sp cl (tcells a b c dv e (.slice At T.length ct)) vg DG L At ct T Ar cr R W) (F : LayF L) (ht : Tra L T dv) (now s : Int) (hs : 0 ≤ s ∧ s ≤ 1000000) (hd : 0 ≤ now - b ∧ now - b ≤ 1000000000000) (he : 0 ≤ e ∧ e ≤ 1000000000000) :
    Calls Try.prog 13 #[.agg cl, .agg (tcells a b c dv e (.slice At T.length ct)), .int .i64 now, .int .i64 s, .slice Ar R.length cr] W (RetAhead (spanL L R T dv (s * (now - b) - e), (aheadL L R T dv (s * (now - b) - e)).2) W) :=
  refSpan_any W _ (.agg cl) L a b c dv e At ct T now s Ar cr R h.lay (Nat.le_refl _) F.fits F.tame F.secs.2 h.tr (by have := ht.le; omega) h.ri (by have := ht.pos; omega) ht.ok hs hd he

end Go.Proofs.Ytbomkifnhkmkoaa
