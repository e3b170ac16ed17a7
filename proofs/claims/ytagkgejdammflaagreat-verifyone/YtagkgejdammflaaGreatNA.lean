/- Contracts: Next. Contracts: Part, mustRight, IndexFunc of ends. -/
import Derived.Test.YtagkgejdammflaaGreatGB
namespace Go.Proofs.YtagkgejdammflaaGreat
open Go.RowKit Fl
set_option maxRecDepth 100000

/-- The side of a point that is open. -/
def openL (p : Int × Int × Int × Int) (b : Bool) : Int := if b then p.2.2.2 else p.2.2.1
/-- The ends to which the track leads, as the points stand. -/
def nextEs (L : Lay) (e : Int × Int) (right : List Bool) : List (Int × Int) :=
  if 0 ≤ pointAtL L e then throughL L.secs (L.points.getD (pointAtL L e).toNat (0, 0, 0, 0)) e.1 [openL (L.points.getD (pointAtL L e).toNat (0, 0, 0, 0)) (right.getD (pointAtL L e).toNat false)]
  else aroundL L e
def nextL (L : Lay) (e : Int × Int) (right : List Bool) : Option (Int × Int) := (nextEs L e right).head?

theorem pointAtL_lt {L : Lay} {e : Int × Int} (h : 0 ≤ pointAtL L e) : ∃ i : Nat, pointAtL L e = (i : Int) ∧ i < L.points.length := by
  unfold pointAtL at h ⊢
  cases hn : nodeL L.secs e with
  | none => rw [hn] at h; simp at h
  | some n => rw [hn] at h; exact pointL_lt h

def RetNext (r : Option (Int × Int)) (w : World) (e : Ending) (w' : World) : Prop :=
  e = .returned (.tuple #[.agg #[.int .i64 (r.getD (0, 0)).1, .int .i64 (r.getD (0, 0)).2], .bool r.isSome]) ∧ Below w.heap.size w w'

theorem Rd.lone (w : World) (a : Int) : Rd (w.alloc (.cells #[.int .i64 a] 3)) (w.alloc (.cells #[.int .i64 a] 3)).heap.size (.slice (some ⟨w.heap.size, 0, none⟩) 1 1) (ivals [a]) := by
  have h := World.ownsRow_lit (base := 0) (e := 3) (size := 1) w #[.int .i64 a] 1 (Nat.zero_le _) (by unfold maxLen; omega) rfl
  exact Rd.of_own h

end Go.Proofs.YtagkgejdammflaaGreat

namespace Go.Proofs.YtagkgejdammflaaGreat
open Go.RowKit Fl
set_option maxRecDepth 100000

theorem contains52 (w : World) (D : Nat) (v : Value) (xs : List Int) (n : Int) (h : Rd w D v (ivals xs)) (hl : xs.length ≤ 1000) :
    Calls Tryz.prog 123 #[v, .int .i64 n] w fun e w' => e = .returned (.bool (xs.contains n)) ∧ w = w' := by
  obtain ⟨A, c, rfl, h0, hx⟩ := h
  have hvl : (ivals xs).length = xs.length := by simp [ivals]
  rw [hvl] at hx ⊢
  rcases Nat.eq_zero_or_pos xs.length with e | e
  · obtain rfl : xs = [] := List.length_eq_zero_iff.1 e
    refine (Tryz.slices_Contains_int_empty A c n w).mono ?_
    rintro e w' ⟨rfl, rfl⟩; exact ⟨rfl, rfl⟩
  · obtain ⟨b, o, rfl, hb, hc⟩ := hx e
    refine (Tryz.slices_Contains_int b o xs.length c xs n w (Nat.le_refl _) (by omega) (ints_at' hc)).mono ?_
    rintro e w' ⟨rfl, rfl⟩
    refine ⟨?_, rfl⟩
    simp

/-- The first part in which a section is. -/
def partL (ps : List (List Int)) (s : Int) : Int :=
  match ps.findIdx? (fun p => p.contains s) with
  | some i => (i : Int)
  | none => -1
theorem partL_at {ps : List (List Int)} {n : Int} {i : Nat} (hi : i < ps.length) (h : ps[i].contains n = true) (hb : ∀ j (hj : j < ps.length), j < i → ps[j].contains n = false) : partL ps n = (i : Int) := by
  unfold partL
  have e : ps.findIdx? (fun p => p.contains n) = some i := by
    rw [List.findIdx?_eq_some_iff_getElem]
    exact ⟨hi, h, fun j hj => by rw [hb j (by omega) hj]; decide⟩
  rw [e]
theorem partL_none {ps : List (List Int)} {n : Int} (hb : ∀ j (hj : j < ps.length), ps[j].contains n = false) : partL ps n = -1 := by
  unfold partL
  have e : ps.findIdx? (fun p => p.contains n) = none := by
    rw [List.findIdx?_eq_none_iff]
    intro x hx
    obtain ⟨j, hj, rfl⟩ := List.getElem_of_mem hx
    exact hb j hj
  rw [e]

/-- Must a point stand to the right? -/
def mustL (p : Int × Int × Int × Int) (f t : Int) : Bool := if f = p.2.1 then !(t == p.2.2.1) else !(f == p.2.2.1)

set_option maxHeartbeats 1000000 in
theorem must_any (w : World) (D : Nat) (v : Value) (L : Lay) (i : Nat) (f t : Int) (h : IsGr w D v L) (hL : Fits L) (hi : i < L.points.length) :
    Calls Tryz.prog 105 #[v, .int .i64 (i : Int), .int .i64 f, .int .i64 t] w fun e w' => e = .returned (.bool (mustL L.points[i] f t)) ∧ Below w.heap.size w w' := by
  have HB0 := fun cs => (Below.refl w.heap.size w).alloc (Nat.le_refl _) (.cells cs 41)
  have HB := Lib.hid HB0
  clear HB0
  obtain ⟨g, vS, vQ, vP, rfl, hg⟩ := h
  obtain ⟨A, c, hA⟩ := hg.points
  subst hA
  have f1 := hg.row.cell 1
  simp only [List.getElem?_toArray, List.getElem?_cons_zero, List.getElem?_cons_succ] at f1
  obtain ⟨b, o, rfl, -, c0, c1, c2, c3⟩ := hg.q.at i hi
  have hq := hL.q
  clear hg hL
  generalize L.points[i] = z at *
  generalize L.points.length = m at *
  obtain ⟨z0, z1, z2, z3⟩ := z
  simp only at c0 c1 c2 c3
  have HS3 := Lib.hid (Row.new w 41 #[.int .i64 z0, .int .i64 z1, .int .i64 z2, .int .i64 z3])
  have HB3 := Lib.hid (HB.out #[.int .i64 z0, .int .i64 z1, .int .i64 z2, .int .i64 z3])
  by_cases hf : f = z1
  · have HE : Hid (mustL (z0, z1, z2, z3) f t = !(t == z2)) := by show _ = _; unfold mustL; rw [if_pos hf]
    generalize mustL (z0, z1, z2, z3) f t = r at *
    go_enter Tryz.func105, Tryz.ntmps105
    go_upto_region 2 with (fail)
    obtain ⟨a3, ha3⟩ : ∃ n, n = w.heap.size := ⟨_, rfl⟩
    rw [← ha3] at HS3 HB3 ⊢
    have HA := Lib.hid ha3
    clear ha3 c0 c1 c2 c3 f1 HB
    generalize w.alloc (.cells #[.int .i64 z0, .int .i64 z1, .int .i64 z2, .int .i64 z3] 41) = w3 at *
    have p0 := HS3.out.cell 0; have p1 := HS3.out.cell 1; have p2 := HS3.out.cell 2; have p3 := HS3.out.cell 3
    simp only [List.getElem?_toArray, List.getElem?_cons_zero, List.getElem?_cons_succ] at p0 p1 p2 p3
    subst hf
    go_wp2_with fail
    go_ret
    exact ⟨ret_bool HE.out.symm, by rw [← HA.out]; exact HB3.out⟩
  · have HE : Hid (mustL (z0, z1, z2, z3) f t = !(f == z2)) := by show _ = _; unfold mustL; rw [if_neg hf]
    generalize mustL (z0, z1, z2, z3) f t = r at *
    go_enter Tryz.func105, Tryz.ntmps105
    go_upto_region 2 with (fail)
    obtain ⟨a3, ha3⟩ : ∃ n, n = w.heap.size := ⟨_, rfl⟩
    rw [← ha3] at HS3 HB3 ⊢
    have HA := Lib.hid ha3
    clear ha3 c0 c1 c2 c3 f1 HB
    generalize w.alloc (.cells #[.int .i64 z0, .int .i64 z1, .int .i64 z2, .int .i64 z3] 41) = w3 at *
    have p0 := HS3.out.cell 0; have p1 := HS3.out.cell 1; have p2 := HS3.out.cell 2; have p3 := HS3.out.cell 3
    simp only [List.getElem?_toArray, List.getElem?_cons_zero, List.getElem?_cons_succ] at p0 p1 p2 p3
    go_wp2_with fail
    go_ret
    exact ⟨ret_bool HE.out.symm, by rw [← HA.out]; exact HB3.out⟩

/-- The first end of a list that is of a section, or -1. -/
def inL (xs : List (Int × Int)) (s : Int) : Option Nat := xs.findIdx? (fun e => decide (e.1 = s))
theorem inL_at {xs : List (Int × Int)} {n : Int} {i : Nat} (hi : i < xs.length) (h : xs[i].1 = n) (hb : ∀ j (hj : j < xs.length), j < i → xs[j].1 ≠ n) : inL xs n = some i := by
  unfold inL
  rw [List.findIdx?_eq_some_iff_getElem]
  exact ⟨hi, by simpa using h, fun j hj => by simpa using hb j (by omega) hj⟩
theorem inL_none {xs : List (Int × Int)} {n : Int} (hb : ∀ j (hj : j < xs.length), xs[j].1 ≠ n) : inL xs n = none := by
  unfold inL
  rw [List.findIdx?_eq_none_iff]
  intro x hx
  obtain ⟨j, hj, rfl⟩ := List.getElem_of_mem hx
  simpa using hb j hj
theorem inL_lt {xs : List (Int × Int)} {n : Int} {i : Nat} (h : inL xs n = some i) : i < xs.length := by
  unfold inL at h
  rw [List.findIdx?_eq_some_iff_getElem] at h
  exact h.1
def idxI (o : Option Nat) : Int := match o with | some i => (i : Int) | none => -1

theorem closure60 (w : World) (a b n : Int) (bx : Nat) (hx : w.cell? ⟨bx, 0, none⟩ = some (.int .i64 n)) :
    Calls Tryz.prog 103 #[.agg #[.int .i64 a, .int .i64 b], .pointer (some ⟨bx, 0, none⟩)] w fun e w' => e = .returned (.bool (a == n)) ∧ Below w.heap.size w w' := by
  have k0 := cell_alloc (o := .cells #[.int .i64 a, .int .i64 b] 60) hx
  have HB := Lib.hid ((Below.refl w.heap.size w).alloc (Nat.le_refl _) (.cells #[.int .i64 a, .int .i64 b] 60))
  clear hx
  go_enter Tryz.func103, Tryz.ntmps103
  go_wp2_with fail
  go_ret
  exact ⟨rfl, HB.out⟩

set_option maxHeartbeats 2000000 in
theorem indexEnds59 (w : World) (D bx : Nat) (v : Value) (ps : List (Int × Int)) (n : Int) (h : Prs w D v ps) (hD : D ≤ w.heap.size) (hl : ps.length ≤ 100) (hx : w.cell? ⟨bx, 0, none⟩ = some (.int .i64 n)) (hbx : bx < w.heap.size) :
    Calls Tryz.prog 102 #[v, .func (.func 103) #[] #[.pointer (some ⟨bx, 0, none⟩)]] w fun e w' => e = .returned (.int .i64 (idxI (inL ps n))) ∧ Below w.heap.size w w' := by
  have HP := Lib.hid h
  obtain ⟨A, c, rfl, -⟩ := h
  have HX := Lib.hid hx
  clear hx
  obtain ⟨r, hr⟩ : ∃ r, idxI (inL ps n) = r := ⟨_, rfl⟩
  rw [hr]
  have HR := Lib.hid hr
  clear hr
  obtain ⟨m, hm⟩ : ∃ m, ps.length = m := ⟨_, rfl⟩
  rw [hm] at HP hl ⊢
  have HM := Lib.hid hm
  clear hm
  obtain ⟨B0, hB0⟩ : ∃ n, n = w.heap.size := ⟨_, rfl⟩
  rw [← hB0] at hD hbx
  have HB0 := Lib.hid hB0
  clear hB0
  go_enter Tryz.func102, Tryz.ntmps102
  go_wp2_with fail
  go_loopw [8] (fun k wr => ∃ i : Nat, i ≤ m ∧ k = .int .i64 i ∧ Hid ((∀ j (hj : j < ps.length), j < i → ps[j].1 ≠ n) ∧ Below B0 w wr)) (fun k _ => m - (intOf k).toNat)
  case atStart => exact ⟨0, Nat.zero_le _, rfl, fun j _ hj => absurd hj (by omega), Below.refl _ _⟩
  case round =>
    obtain ⟨i, hi, rfl, HJ⟩ := hrel
    by_cases hlt : i < m
    · have him : i < ps.length := by have := HM.out; omega
      obtain ⟨b, o, rfl, hb, c0, c1⟩ := HP.out.at i him
      have lift : ∀ p : Addr, p.block < B0 → wr.cell? p = w.cell? p := fun p hp => HJ.out.2.cell (p := p) hp
      have e0 := (lift ⟨b, o + i * 2, none⟩ (by show b < B0; omega)).trans c0
      have e1 := (lift ⟨b, o + i * 2 + 1, none⟩ (by show b < B0; omega)).trans c1
      have HXR : Hid (wr.cell? ⟨bx, 0, none⟩ = some (.int .i64 n)) := (lift ⟨bx, 0, none⟩ hbx).trans HX.out
      have HQ1 : Hid (ps[i].1 = n → r = (i : Int)) := fun e => by rw [← HR.out, inL_at him e HJ.out.1]; rfl
      have HQ2 : Hid (ps[i].1 ≠ n → ∀ j (hj : j < ps.length), j < i + 1 → ps[j].1 ≠ n) := fun e j hj hji => by
        rcases Nat.lt_or_ge j i with c | c
        · exact HJ.out.1 j hj c
        · obtain rfl : j = i := by omega
          exact e
      clear lift c0 c1
      generalize ps[i] = z at *
      obtain ⟨z0, z1⟩ := z
      simp only at e0 e1 HQ1 HQ2
      go_wp2_with fail
      refine (closure60 wr z0 z1 n bx HXR.out).mono ?_; rintro e w1 ⟨rfl, hb1⟩
      have HB1 : Hid (Below B0 w w1) := HJ.out.2.trans (hb1.mono (by have := HJ.out.2.size; have := HB0.out; omega))
      clear hb1 e0 e1
      by_cases hz : z0 = n
      · have HF := Lib.hid (HQ1.out hz)
        subst hz
        go_wp2_with fail
        go_ret
        exact ⟨ret_int HF.out.symm, by rw [← HB0.out]; exact HB1.out⟩
      · have hz2 : (z0 == n) = false := by simpa using hz
        have HN2 := Lib.hid (HQ2.out hz)
        go_wp2_with fail
        go_roundw
        case rel => exact ⟨i + 1, by omega, by go_num, HN2.out, HB1.out⟩
        case measure => simp [intOf]; omega
    · have HF : Hid (r = -1) := by
        show _ = _
        rw [← HR.out, inL_none fun j hj => HJ.out.1 j hj (by have := HM.out; omega)]; rfl
      go_wp2_with fail
      go_ret
      exact ⟨ret_int HF.out.symm, by rw [← HB0.out]; exact HJ.out.2⟩

end Go.Proofs.YtagkgejdammflaaGreat
