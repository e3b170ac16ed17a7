/- Contracts: endAt, pointAt, through, across. -/
import Derived.Test.YtifcgkpannlnnaaG5
import Derived.Test.YtifcgkpannlnnaaShelf
namespace Go.Proofs.Ytifcgkpannlnnaa
open Go.RowKit Fl
set_option maxRecDepth 100000

theorem Prs.take {w : World} {D n c : Nat} {A : Option Addr} {xs : List (Int × Int)} (h : Prs w D (.slice A n c) xs) (k : Nat) (hk : k ≤ xs.length) : Prs w D (.slice A k c) (xs.take k) := by
  obtain ⟨A', c', hv, ⟨h0, hc⟩, hx⟩ := h
  injection hv with e1 e2 e3
  subst e1 e3
  have hl : (xs.take k).length = k := by simp; omega
  refine ⟨A, c, by rw [hl], ⟨h0, by omega⟩, fun hp => ?_⟩
  obtain ⟨b, o, cur, fr, hA, hb, hh, hcc⟩ := hx (by omega)
  refine ⟨b, o, cur, fr, hA, hb, hh, fun j hj => ?_⟩
  have := hcc j (by omega)
  simpa using this

def oneL (ss : List (Int × Int × Int)) (s n : Int) : List (Int × Int) := (endsOfL ss s n).take 1

set_option maxHeartbeats 1000000 in
theorem endAt_any (w : World) (D : Nat) (v : Value) (L : Lay) (s n : Int) (h : IsGr w D v L) (hL : Fits L) :
    Calls Try.prog 90 #[v, .int .i64 s, .int .i64 n] w (RetEnds (oneL L.secs s n) w) := by
  have HE : Hid (oneL L.secs s n = (endsOfL L.secs s n).take 1) := rfl
  have hle := endsOfL_le L.secs s n
  have HI := Lib.hid h
  obtain ⟨g, vS, vQ, vP, rfl, -⟩ := h
  generalize oneL L.secs s n = r at *
  go_enter Try.func90, Try.ntmps90
  go_wp2_with fail
  refine (endsOf_any w D _ L s n HI.out hL).mono ?_; rintro e w1 ⟨v1, rfl, ho1, hb1⟩
  obtain ⟨A1, c1, hv1⟩ := own_slice ho1
  subst hv1
  have hcap := own_cap ho1
  have HP := Lib.hid (Prs.of_own ho1)
  have HB := Lib.hid hb1
  clear ho1 hb1
  generalize endsOfL L.secs s n = ys at *
  rcases Nat.eq_zero_or_pos ys.length with h0 | h0
  · have HT := Lib.hid (HP.out.take 0 (Nat.zero_le _))
    have HY : Hid (r = []) := by show _ = _; rw [HE.out, List.length_eq_zero_iff.1 h0]; rfl
    rw [h0] at hcap ⊢
    clear h0 HP HE hle
    go_wp2_with fail
    go_ret
    rw [HY.out]
    exact ⟨_, rfl, HT.out, HB.out⟩
  · have HT := Lib.hid (HP.out.take 1 h0)
    have hmin : min (1 : Int) (ys.length : Int) = 1 := by omega
    clear HP
    go_wp2_with fail
    go_ret
    rw [HE.out]
    exact ⟨_, rfl, HT.out, HB.out⟩

/-- The point over which a train comes that leaves at an end. -/
def pointAtL (L : Lay) (e : Int × Int) : Int := match nodeL L.secs e with
  | some n => pointL L.points n
  | none => -1

set_option maxHeartbeats 1000000 in
theorem pointAt_any (w : World) (D : Nat) (v : Value) (L : Lay) (s k : Int) (h : IsGr w D v L) (hD : D ≤ w.heap.size) (hL : Fits L) :
    Calls Try.prog 70 #[v, .agg #[.int .i64 s, .int .i64 k]] w fun e w' => e = .returned (.int .i64 (pointAtL L (s, k))) ∧ Below w.heap.size w w' := by
  have hb0 := (Below.refl w.heap.size w).alloc (Nat.le_refl _) (.cells #[.int .i64 s, .int .i64 k] 85)
  have HI := Lib.hid (h.keep hb0 hD)
  have HB0 := Lib.hid hb0
  obtain ⟨g, vS, vQ, vP, rfl, -⟩ := h
  clear hb0
  have HE : Hid (pointAtL L (s, k) = match nodeL L.secs (s, k) with | some n => pointL L.points n | none => -1) := rfl
  generalize pointAtL L (s, k) = r at *
  have hD1 : D ≤ (w.alloc (.cells #[.int .i64 s, .int .i64 k] 85)).heap.size := by simp; omega
  go_enter Try.func70, Try.ntmps70
  go_wp2_with fail
  refine (node_any _ D _ L s k HI.out hD1 hL).mono ?_; rintro e w1 ⟨rfl, hb1⟩
  have HB1 := Lib.hid (HB0.out.trans (hb1.mono HB0.out.size))
  have HI1 := Lib.hid (HI.out.keep hb1 hD1)
  have hD2 : D ≤ w1.heap.size := by have := HB1.out.size; omega
  clear hb1
  cases hn : nodeL L.secs (s, k) with
  | none =>
    rw [hn] at HE
    have HE2 : Hid (r = -1) := HE.out
    clear HE hn
    simp only [Option.getD_none, Option.isSome_none]
    go_wp2_with fail
    go_ret
    exact ⟨ret_int HE2.out.symm, HB1.out⟩
  | some n =>
    rw [hn] at HE
    have HE2 : Hid (r = pointL L.points n) := HE.out
    clear HE hn
    simp only [Option.getD_some, Option.isSome_some]
    go_wp2_with fail
    refine (point_any w1 D _ L n HI1.out hD2 hL).mono ?_; rintro e w2 ⟨rfl, hb2⟩
    have HB2 := Lib.hid (HB1.out.trans (hb2.mono HB1.out.size))
    clear hb2
    go_wp2_with fail
    go_ret
    exact ⟨ret_int HE2.out.symm, HB2.out⟩

end Go.Proofs.Ytifcgkpannlnnaa
