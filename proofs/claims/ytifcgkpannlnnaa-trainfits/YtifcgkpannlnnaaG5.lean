/- Contracts: Point (by IndexFunc and its closure), endAt, pointAt. -/
import Derived.Test.YtifcgkpannlnnaaG4
namespace Go.Proofs.Ytifcgkpannlnnaa
open Go.RowKit Fl
set_option maxRecDepth 100000

/-- The first point at a node. -/
def pointL (ps : List (Int × Int × Int × Int)) (n : Int) : Int :=
  match ps.findIdx? (fun p => decide (p.1 = n)) with
  | some i => (i : Int)
  | none => -1

theorem pointL_at {ps : List (Int × Int × Int × Int)} {n : Int} {i : Nat} (hi : i < ps.length) (h : ps[i].1 = n) (hb : ∀ j (hj : j < ps.length), j < i → ps[j].1 ≠ n) : pointL ps n = (i : Int) := by
  unfold pointL
  have e : ps.findIdx? (fun p => decide (p.1 = n)) = some i := by
    rw [List.findIdx?_eq_some_iff_getElem]
    exact ⟨hi, by simpa using h, fun j hj => by simpa using hb j (by omega) hj⟩
  rw [e]
theorem pointL_none {ps : List (Int × Int × Int × Int)} {n : Int} (hb : ∀ j (hj : j < ps.length), ps[j].1 ≠ n) : pointL ps n = -1 := by
  unfold pointL
  have e : ps.findIdx? (fun p => decide (p.1 = n)) = none := by
    rw [List.findIdx?_eq_none_iff]
    intro x hx
    obtain ⟨j, hj, rfl⟩ := List.getElem_of_mem hx
    simpa using hb j hj
  rw [e]

theorem closure49 (w : World) (a b c d n : Int) (bx : Nat) (hx : w.cell? ⟨bx, 0, none⟩ = some (.int .i64 n)) :
    Calls Try.prog 88 #[.agg #[.int .i64 a, .int .i64 b, .int .i64 c, .int .i64 d], .pointer (some ⟨bx, 0, none⟩)] w fun e w' => e = .returned (.bool (a == n)) ∧ Below w.heap.size w w' := by
  have k0 := cell_alloc (o := .cells #[.int .i64 a, .int .i64 b, .int .i64 c, .int .i64 d] 72) hx
  have HB := Lib.hid ((Below.refl w.heap.size w).alloc (Nat.le_refl _) (.cells #[.int .i64 a, .int .i64 b, .int .i64 c, .int .i64 d] 72))
  clear hx
  go_enter Try.func88, Try.ntmps88
  go_wp2_with fail
  go_ret
  exact ⟨rfl, HB.out⟩

set_option maxHeartbeats 2000000 in
theorem indexFunc48 (w : World) (D bx : Nat) (v : Value) (ps : List (Int × Int × Int × Int)) (n : Int) (h : Pts w D v ps) (hD : D ≤ w.heap.size) (hl : ps.length ≤ 100) (hx : w.cell? ⟨bx, 0, none⟩ = some (.int .i64 n)) (hbx : bx < w.heap.size) :
    Calls Try.prog 87 #[v, .func (.func 88) #[] #[.pointer (some ⟨bx, 0, none⟩)]] w fun e w' => e = .returned (.int .i64 (pointL ps n)) ∧ Below w.heap.size w w' := by
  have HP := Lib.hid h
  obtain ⟨A, c, rfl, -⟩ := h
  have HX := Lib.hid hx
  clear hx
  obtain ⟨r, hr⟩ : ∃ r, pointL ps n = r := ⟨_, rfl⟩
  rw [hr]
  have HR := Lib.hid hr
  clear hr
  obtain ⟨m, hm⟩ : ∃ m, ps.length = m := ⟨_, rfl⟩
  rw [hm] at HP hl ⊢
  have HM := Lib.hid hm
  clear hm
  obtain ⟨B0, hB0⟩ : ∃ n, n = w.heap.size := ⟨_, rfl⟩
  rw [← hB0] at hD hbx
  have HB0 := Lib.hid hB0
  clear hB0
  go_enter Try.func87, Try.ntmps87
  go_wp2_with fail
  go_loopw [8] (fun k wr => ∃ i : Nat, i ≤ m ∧ k = .int .i64 i ∧ Hid ((∀ j (hj : j < ps.length), j < i → ps[j].1 ≠ n) ∧ Below B0 w wr)) (fun k _ => m - (intOf k).toNat)
  case atStart => exact ⟨0, Nat.zero_le _, rfl, fun j _ hj => absurd hj (by omega), Below.refl _ _⟩
  case round =>
    obtain ⟨i, hi, rfl, HJ⟩ := hrel
    by_cases hlt : i < m
    · have him : i < ps.length := by have := HM.out; omega
      obtain ⟨b, o, rfl, hb, c0, c1, c2, c3⟩ := HP.out.at i him
      have lift : ∀ p : Addr, p.block < B0 → wr.cell? p = w.cell? p := fun p hp => HJ.out.2.cell (p := p) hp
      have e0 := (lift ⟨b, o + i * 4, none⟩ (by show b < B0; omega)).trans c0
      have e1 := (lift ⟨b, o + i * 4 + 1, none⟩ (by show b < B0; omega)).trans c1
      have e2 := (lift ⟨b, o + i * 4 + 2, none⟩ (by show b < B0; omega)).trans c2
      have e3 := (lift ⟨b, o + i * 4 + 3, none⟩ (by show b < B0; omega)).trans c3
      have HXR : Hid (wr.cell? ⟨bx, 0, none⟩ = some (.int .i64 n)) := (lift ⟨bx, 0, none⟩ hbx).trans HX.out
      have HQ1 : Hid (ps[i].1 = n → r = (i : Int)) := fun e => by rw [← HR.out]; exact pointL_at him e HJ.out.1
      have HQ2 : Hid (ps[i].1 ≠ n → ∀ j (hj : j < ps.length), j < i + 1 → ps[j].1 ≠ n) := fun e j hj hji => by
        rcases Nat.lt_or_ge j i with c | c
        · exact HJ.out.1 j hj c
        · obtain rfl : j = i := by omega
          exact e
      clear lift c0 c1 c2 c3
      generalize ps[i] = z at *
      obtain ⟨z0, z1, z2, z3⟩ := z
      simp only at e0 e1 e2 e3 HQ1 HQ2
      go_wp2_with fail
      refine (closure49 wr z0 z1 z2 z3 n bx HXR.out).mono ?_; rintro e w1 ⟨rfl, hb1⟩
      have HB1 : Hid (Below B0 w w1) := HJ.out.2.trans (hb1.mono (by have := HJ.out.2.size; have := HB0.out; omega))
      clear hb1 e0 e1 e2 e3
      by_cases hz : z0 = n
      · have HF := Lib.hid (HQ1.out hz)
        subst hz
        go_wp2_with fail
        go_ret
        exact ⟨ret_int HF.out.symm, by rw [← HB0.out]; exact HB1.out⟩
      · have hz2 : (z0 == n) = false := by simpa using hz
        have HN2 := Lib.hid (HQ2.out hz)
        go_wp2_with fail
        go_roundw
        case rel => exact ⟨i + 1, by omega, by go_num, HN2.out, HB1.out⟩
        case measure => simp [intOf]; omega
    · have HF : Hid (r = -1) := by
        show _ = _
        rw [← HR.out]
        exact pointL_none fun j hj => HJ.out.1 j hj (by have := HM.out; omega)
      go_wp2_with fail
      go_ret
      exact ⟨ret_int HF.out.symm, by rw [← HB0.out]; exact HJ.out.2⟩

set_option maxHeartbeats 1000000 in
theorem point_any (w : World) (D : Nat) (v : Value) (L : Lay) (n : Int) (h : IsGr w D v L) (hD : D ≤ w.heap.size) (hL : Fits L) :
    Calls Try.prog 73 #[v, .int .i64 n] w fun e w' => e = .returned (.int .i64 (pointL L.points n)) ∧ Below w.heap.size w w' := by
  have hb0 := (Below.refl w.heap.size w).alloc (Nat.le_refl _) (.cells #[.int .i64 n] 3)
  have hI := h.keep hb0 hD
  obtain ⟨g, vS, vQ, vP, rfl, hg⟩ := hI
  have f1 := hg.row.cell 1
  simp only [List.getElem?_toArray, List.getElem?_cons_zero, List.getElem?_cons_succ] at f1
  have HQ := Lib.hid hg.q
  have hq := hL.q
  have HB0 := Lib.hid hb0
  have HX : Hid ((w.alloc (.cells #[.int .i64 n] 3)).cell? ⟨w.heap.size, 0, none⟩ = some (.int .i64 n)) := by show _ = _; simp
  clear hg h hb0 hL
  go_enter Try.func73, Try.ntmps73
  go_wp2_with fail
  refine (indexFunc48 _ D w.heap.size vQ L.points n HQ.out (by simp; omega) hq HX.out (by simp)).mono ?_; rintro e w1 ⟨rfl, hb1⟩
  have HB1 := Lib.hid (HB0.out.trans (hb1.mono HB0.out.size))
  clear hb1
  go_wp2_with fail
  go_ret
  exact ⟨rfl, HB1.out⟩

theorem point_nil (w : World) (n : Int) : Calls Try.prog 73 #[.pointer none, .int .i64 n] w fun e w' => e = .returned (.int .i64 (-1)) ∧ Below w.heap.size w w' := by
  have HB := Lib.hid ((Below.refl w.heap.size w).alloc (Nat.le_refl _) (.cells #[.int .i64 n] 3))
  go_enter Try.func73, Try.ntmps73
  go_wp2_with fail
  go_ret
  exact ⟨rfl, HB.out⟩

end Go.Proofs.Ytifcgkpannlnnaa
