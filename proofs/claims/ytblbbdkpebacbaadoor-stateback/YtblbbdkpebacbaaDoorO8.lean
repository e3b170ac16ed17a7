/- Contracts of the law: few, owners, clear. -/
import Derived.Test.YtblbbdkpebacbaaDoorO6
namespace Go.Proofs.YtblbbdkpebacbaaDoor
open Go.RowKit Fl
set_option maxRecDepth 100000

def outO (f : Nat → Int) (i : Nat) : List Int := (List.range i).map f
theorem outO_len (f : Nat → Int) (i : Nat) : (outO f i).length = i := by simp [outO]
theorem outO_succ (f : Nat → Int) (i : Nat) : outO f (i + 1) = outO f i ++ [f i] := by simp [outO, List.range_succ]

/-- A field by value. -/
structure Fd where
  own : List Nat
  clr : List Bool
  vws : List (Nat × Bool × List Nat)

structure FdOk (f : Fd) : Prop where
  own : ∀ x ∈ f.own, x < 256
  vws : ∀ v ∈ f.vws, v.1 < 256 ∧ ∀ x ∈ v.2.2, x < 256

/-- Looks in memory. -/
def Lks (w : World) (D : Nat) (v : Value) (xs : List (Nat × Bool × List Nat)) : Prop :=
  ∃ (A : Option Addr) (c : Nat) (vs : List Value), v = .slice A xs.length c ∧ vs.length = xs.length ∧ (∀ i (h1 : i < vs.length) (h2 : i < xs.length), Rd w D vs[i] (bvals xs[i].2.2)) ∧
    (0 < xs.length → ∃ b o, A = some ⟨b, o, none⟩ ∧ b < D ∧ ∀ j (h : j < xs.length) (h1 : j < vs.length), w.cell? ⟨b, o + j * 3, none⟩ = some (.int .u8 (xs[j].1 : Int)) ∧ w.cell? ⟨b, o + j * 3 + 1, none⟩ = some (.bool xs[j].2.1) ∧ w.cell? ⟨b, o + j * 3 + 2, none⟩ = some vs[j])

theorem Lks.mono {w w' : World} {D D' : Nat} {v : Value} {xs : List (Nat × Bool × List Nat)} (h : Lks w D v xs) (hD : D ≤ D') (hc : ∀ p : Addr, p.block < D → w'.cell? p = w.cell? p) : Lks w' D' v xs := by
  obtain ⟨A, c, vs, hv, hl, hr, hx⟩ := h
  refine ⟨A, c, vs, hv, hl, fun i h1 h2 => (hr i h1 h2).mono hD hc, fun hp => ?_⟩
  obtain ⟨b, o, hA, hb, hcell⟩ := hx hp
  exact ⟨b, o, hA, by omega, fun j hj h1 => ⟨(hc _ hb).trans (hcell j hj h1).1, (hc _ hb).trans (hcell j hj h1).2.1, (hc _ hb).trans (hcell j hj h1).2.2⟩⟩
theorem Lks.below {w w' : World} {B C : Nat} {v : Value} {xs : List (Nat × Bool × List Nat)} (h : Lks w B v xs) (hb : Below C w w') (hC : B ≤ C) : Lks w' B v xs :=
  h.mono (Nat.le_refl _) fun _ hp => hb.cell (by omega)
theorem Lks.at {w : World} {D n c : Nat} {A : Option Addr} {xs : List (Nat × Bool × List Nat)} (h : Lks w D (.slice A n c) xs) (j : Nat) (hj : j < xs.length) : ∃ b o A1 c1, A = some ⟨b, o, none⟩ ∧ b < D ∧ w.cell? ⟨b, o + j * 3, none⟩ = some (.int .u8 (xs[j].1 : Int)) ∧ w.cell? ⟨b, o + j * 3 + 1, none⟩ = some (.bool xs[j].2.1) ∧ w.cell? ⟨b, o + j * 3 + 2, none⟩ = some (.slice A1 xs[j].2.2.length c1) ∧ Rd w D (.slice A1 xs[j].2.2.length c1) (bvals xs[j].2.2) := by
  obtain ⟨A', c', vs, hv, hl, hr, hx⟩ := h
  injection hv with e1 e2 e3
  subst e1 e3
  obtain ⟨b, o, hA, hb, hc⟩ := hx (by omega)
  have h1 : j < vs.length := by omega
  obtain ⟨c1, c2, c3⟩ := hc j hj h1
  have hrj := hr j h1 hj
  obtain ⟨A1, cc, e, h0, hxx⟩ := hrj
  rw [e] at c3
  have hil : (bvals xs[j].2.2).length = xs[j].2.2.length := by simp [bvals]
  rw [hil] at c3
  refine ⟨b, o, A1, cc, hA, hb, c1, c2, c3, A1, cc, by rw [hil], h0, hxx⟩

/-- A field in memory. -/
structure FdV (w : World) (D : Nat) (Ao Ac Av : Option Addr) (co cc cv : Nat) (f : Fd) : Prop where
  own : Rd w D (.slice Ao f.own.length co) (bvals f.own)
  clr : Rd w D (.slice Ac f.clr.length cc) (cvals f.clr)
  vws : Lks w D (.slice Av f.vws.length cv) f.vws
theorem FdV.below {w w' : World} {D C : Nat} {Ao Ac Av : Option Addr} {co cc cv : Nat} {f : Fd} (h : FdV w D Ao Ac Av co cc cv f) (hb : Below C w w') (hC : D ≤ C) : FdV w' D Ao Ac Av co cc cv f :=
  ⟨h.own.below hb hC, h.clr.below hb hC, h.vws.below hb hC⟩
theorem FdV.up {w w' : World} {Ao Ac Av : Option Addr} {co cc cv : Nat} {f : Fd} (h : FdV w w.heap.size Ao Ac Av co cc cv f) (hb : Below w.heap.size w w') : FdV w' w'.heap.size Ao Ac Av co cc cv f :=
  ⟨h.own.up hb, h.clr.up hb, h.vws.mono hb.size (fun _ hp => hb.cell hp)⟩

abbrev fcells (Ao Ac Av : Option Addr) (no nc nv co cc cv : Nat) : Array Value := #[.slice Ao no co, .slice Ac nc cc, .slice Av nv cv]

def ownO (f : Fd) (i : Nat) : Int := ((f.own.getD i 0 % 5 : Nat) : Int) - 2
def ownersL (f : Fd) (n : Nat) : List Int := outO (ownO f) n
def clearB (f : Fd) (i : Nat) : Bool := f.clr.getD i false
def clearL (f : Fd) (n : Nat) : List Bool := (List.range n).map (clearB f)
def fewB (f : Fd) : Bool := f.vws.all (fun v => decide (v.2.2.length ≤ 14)) && decide (f.vws.length ≤ 6)

theorem ownO_ok (f : Fd) (i : Nat) : -2 ≤ ownO f i ∧ ownO f i ≤ 2 := by unfold ownO; omega
theorem ownersL_ok (f : Fd) (n : Nat) : OkO (ownersL f n) := by
  intro x hx
  obtain ⟨p, hp, rfl⟩ := List.getElem_of_mem hx
  have : (ownersL f n)[p] = ownO f p := by simp [ownersL, outO]
  rw [this]
  have := ownO_ok f p
  omega
theorem ownersL_len (f : Fd) (n : Nat) : (ownersL f n).length = n := outO_len _ _
theorem clearL_len (f : Fd) (n : Nat) : (clearL f n).length = n := by simp [clearL]

theorem few_any (w : World) (Ao Ac Av : Option Addr) (co cc cv : Nat) (f : Fd) (h : FdV w w.heap.size Ao Ac Av co cc cv f) (hl : f.vws.length ≤ 9223372036854775807) (hrl : ∀ v ∈ f.vws, v.2.2.length ≤ 9223372036854775807) :
    Calls Tryd.prog 12 #[.agg (fcells Ao Ac Av f.own.length f.clr.length f.vws.length co cc cv)] w (RetL (fewB f) w) := by
  have hb0 := (Below.refl w.heap.size w).alloc (Nat.le_refl _) (.cells (fcells Ao Ac Av f.own.length f.clr.length f.vws.length co cc cv) 30)
  have HB0 := Lib.hid hb0
  have HR0 := Lib.hid (Row.new w 30 (fcells Ao Ac Av f.own.length f.clr.length f.vws.length co cc cv))
  have HV := Lib.hid (h.below hb0 (Nat.le_refl _)).vws
  have HRL := Lib.hid hrl
  clear h hb0 hrl
  obtain ⟨m, hm⟩ : ∃ m, f.vws.length = m := ⟨_, rfl⟩
  rw [hm] at HB0 HR0 HV hl ⊢
  have HM := Lib.hid hm
  clear hm
  obtain ⟨r, hr⟩ : ∃ r, fewB f = r := ⟨_, rfl⟩
  rw [hr]
  have HR := Lib.hid hr
  clear hr
  go_enter Tryd.func12, Tryd.ntmps12
  go_upto_region 1 with (fail)
  obtain ⟨n1, hn1⟩ : ∃ n, n = w.heap.size := ⟨_, rfl⟩
  rw [← hn1] at HR0 ⊢
  clear hn1
  generalize w.alloc (.cells (fcells Ao Ac Av f.own.length f.clr.length m co cc cv) 30) = W0 at *
  have f2 := HR0.out.cell 2
  simp only [List.getElem?_toArray, List.getElem?_cons_zero, List.getElem?_cons_succ] at f2
  go_wp2_with fail
  go_loop [3] (fun k => ∃ i : Nat, i ≤ m ∧ k = .int .i64 i ∧ Hid (∀ j (hj : j < f.vws.length), j < i → f.vws[j].2.2.length ≤ 14)) (fun k => m - (intOf k).toNat)
  case atStart => exact ⟨0, Nat.zero_le _, rfl, fun j _ hj => absurd hj (by omega)⟩
  case round =>
    obtain ⟨i, hi, rfl, HJ⟩ := hrel
    by_cases hlt : i < m
    · have him : i < f.vws.length := by have := HM.out; omega
      have hli : (i : Int) < (m : Int) := by omega
      obtain ⟨b, o, A1, c1, hA, hb, c0, c2, c3, h4⟩ := HV.out.at i him
      subst hA
      have hlr := HRL.out f.vws[i] (List.getElem_mem him)
      have HQ1 : Hid (14 < f.vws[i].2.2.length → r = false) := fun e => by
        rw [← HR.out]; unfold fewB
        rw [Bool.and_eq_false_iff]; left
        rw [List.all_eq_false]
        exact ⟨_, List.getElem_mem him, by simpa using e⟩
      have HQ2 : Hid (¬ 14 < f.vws[i].2.2.length → ∀ j (hj : j < f.vws.length), j < i + 1 → f.vws[j].2.2.length ≤ 14) := fun e j hj hji => by
        rcases Nat.lt_or_ge j i with c | c
        · exact HJ.out j hj c
        · obtain rfl : j = i := by omega
          omega
      clear h4 c0 c2
      generalize f.vws[i].2.2.length = z at *
      by_cases hz : 14 < z
      · have hz2 : (14 : Int) < (z : Int) := by omega
        have HF := Lib.hid (HQ1.out hz)
        go_wp2_with fail
        go_ret
        rw [HF.out]
        exact ⟨rfl, HB0.out⟩
      · have hz2 : ¬ (14 : Int) < (z : Int) := by omega
        have HN2 := Lib.hid (HQ2.out hz)
        go_wp2_with fail
        go_roundw
        case rel => exact ⟨i + 1, by omega, by go_num, HN2.out⟩
        case measure => simp [intOf]; omega
    · have hli : ¬ (i : Int) < (m : Int) := by omega
      have HF : Hid (r = decide (m ≤ 6)) := by
        show _ = _
        rw [← HR.out]; unfold fewB
        have e : f.vws.all (fun v => decide (v.2.2.length ≤ 14)) = true := by
          rw [List.all_eq_true]
          intro x hx
          obtain ⟨j, hj, rfl⟩ := List.getElem_of_mem hx
          simpa using HJ.out j hj (by have := HM.out; omega)
        rw [e, Bool.true_and, HM.out]
      by_cases h6 : m ≤ 6
      · have h6i : (m : Int) ≤ 6 := by omega
        go_wp2_with fail
        go_ret
        rw [HF.out]
        exact ⟨by rw [decide_eq_true h6]; rfl, HB0.out⟩
      · have h6i : ¬ (m : Int) ≤ 6 := by omega
        go_wp2_with fail
        go_ret
        rw [HF.out]
        exact ⟨by rw [decide_eq_false h6]; rfl, HB0.out⟩
end Go.Proofs.YtblbbdkpebacbaaDoor
