/- Behind F13: a report of an act, out of what a law's walk keeps; its trail is well formed. -/
import Derived.Test.YtifcgkpannlnnaaF13
namespace Go.Proofs.Ytifcgkpannlnnaa
open Go.RowKit Fl Go.Maps
set_option maxRecDepth 100000

theorem rep_wf {L : Lay} (T : Tame L) (hL : Fits L) (fr mo : Nat) (ts : List Nat) (hs : 0 < L.secs.length) (hfr : fr < 256) : Wf (repT L fr mo ts) ∧ 0 < (repT L fr mo ts).length ∧ (repT L fr mo ts).length ≤ 5 := by
  have hX : fr % L.secs.length < L.secs.length := Nat.mod_lt _ hs
  have hw := walkGo_thru T ts (1 + mo % 5) ((fr / 128 : Nat) : Int) (1 + mo % 5) 0 [((fr % L.secs.length : Nat) : Int)] (((fr % L.secs.length : Nat) : Int), ((fr / 128 : Nat) : Int)) (by simp) (by simp) ⟨_, rfl, hX, by omega⟩ (by intro x hx; simp only [List.mem_singleton] at hx; exact ⟨_, hx, hX⟩) rfl
  have hh := walkGo_head L ts (1 + mo % 5) (1 + mo % 5) 0 [((fr % L.secs.length : Nat) : Int)] (((fr % L.secs.length : Nat) : Int), ((fr / 128 : Nat) : Int)) (by simp)
  have hl := walkL_len L ((fr % L.secs.length : Nat) : Int) ((fr / 128 : Nat) : Int) ts (1 + mo % 5) (by omega)
  refine ⟨fun n hn => ?_, hh.2, Nat.le_trans hl (by omega)⟩
  obtain ⟨s, e, h⟩ := hw.2.1 n hn
  have := hL.s
  exact wf_in (by omega) (by omega)

theorem TSt.rep {w : World} {B g1 g2 nL DG rb mb : Nat} {cl c1 c2 : Array Value} {vg : Value} {L : Lay} {n : Nat} {m : Mp} {W : World} (h : TSt w B g1 g2 nL DG rb mb cl c1 c2 vg L n m W) (hL : Fits L) (hs : 0 < L.secs.length ∧ ∀ n, n < L.secs.length → 0 < lenL L.secs (n : Int) ∧ lenL L.secs (n : Int) ≤ 1000)
    (id tk fr ah mo : Nat) (wh : Bool) (A : Option Addr) (c : Nat) (ts : List Nat) (time : Int) (hid : id < 256) (hfr : fr < 256) (hah : ah < 65536) (hmo : mo < 256) (ht : Rd w w.heap.size (.slice A ts.length c) (bvals ts)) (hby : ∀ x ∈ ts, x < 256) (htl : ts.length ≤ 1000) :
    Calls Try.prog 14 #[.agg cl, .agg (acells id tk fr (.slice A ts.length c) ah wh mo), .int .i64 time] W (RetRep L id fr mo ah wh ts time W) :=
  refReport_any W B (.agg cl) L id tk fr ah mo wh A c ts time (h.lay.mono h.sg (fun _ _ => rfl)) h.sw hL hs.1 hs.2 hid hfr hah hmo ((ht.below h.bel (Nat.le_refl _)).mono h.s0 (fun _ _ => rfl)) hby htl

end Go.Proofs.Ytifcgkpannlnnaa
