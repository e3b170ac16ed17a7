/- Contracts: Part, mustRight, IndexFunc of ends. Contracts: Beside. -/
import Derived.Test.YtblbbdkpebacbaaDoorNA
namespace Go.Proofs.YtblbbdkpebacbaaDoor
open Go.RowKit Fl
set_option maxRecDepth 100000

theorem closure51 (w : World) (D : Nat) (v : Value) (xs : List Int) (n : Int) (bx : Nat) (h : Rd w D v (ivals xs)) (hl : xs.length ≤ 1000) (hx : w.cell? ⟨bx, 0, none⟩ = some (.int .i64 n)) :
    Calls Tryd.prog 42 #[v, .pointer (some ⟨bx, 0, none⟩)] w fun e w' => e = .returned (.bool (xs.contains n)) ∧ w = w' := by
  have HR := Lib.hid h
  clear h
  generalize hr : xs.contains n = r
  have HQ := Lib.hid hr
  clear hr
  go_enter Tryd.func42, Tryd.ntmps42
  go_wp2_with fail
  refine (contains52 w D v xs n HR.out hl).mono ?_; rintro e w' ⟨rfl, rfl⟩
  rw [HQ.out]
  go_wp2_with fail
  go_ret
  exact ⟨rfl, rfl⟩

set_option maxHeartbeats 2000000 in
theorem indexFunc50 (w : World) (D bx : Nat) (v : Value) (ps : List (List Int)) (n : Int) (h : RowsAt w D v ps) (hl : ps.length ≤ 100) (hr : ∀ x ∈ ps, x.length ≤ 100) (hx : w.cell? ⟨bx, 0, none⟩ = some (.int .i64 n)) :
    Calls Tryd.prog 41 #[v, .func (.func 42) #[] #[.pointer (some ⟨bx, 0, none⟩)]] w fun e w' => e = .returned (.int .i64 (partL ps n)) ∧ w = w' := by
  obtain ⟨vs, hv, hvl, hve⟩ := h
  obtain ⟨A, c, rfl, -, hc⟩ := hv
  have HX := Lib.hid hx
  have HC := Lib.hid hc; have HVE := Lib.hid hve; have HRL := Lib.hid hr
  clear hx hc hve hr
  obtain ⟨r, hr⟩ : ∃ r, partL ps n = r := ⟨_, rfl⟩
  rw [hr]
  have HR := Lib.hid hr
  clear hr
  obtain ⟨m, hm⟩ : ∃ m, ps.length = m := ⟨_, rfl⟩
  have HVL : Hid (vs.length = ps.length) := hvl
  rw [hvl, hm]
  rw [hm] at hl
  have HM := Lib.hid hm
  clear hm hvl
  go_enter Tryd.func41, Tryd.ntmps41
  go_wp2_with fail
  go_loop [8] (fun k => ∃ i : Nat, i ≤ m ∧ k = .int .i64 i ∧ Hid (∀ j (hj : j < ps.length), j < i → ps[j].contains n = false)) (fun k => m - (intOf k).toNat)
  case atStart => exact ⟨0, Nat.zero_le _, rfl, fun j _ hj => absurd hj (by omega)⟩
  case round =>
    obtain ⟨i, hi, rfl, HJ⟩ := hrel
    by_cases hlt : i < m
    · have him : i < ps.length := by have := HM.out; omega
      have hiv : i < vs.length := by have := HVL.out; omega
      obtain ⟨b, o, rfl, hb, hcc⟩ := HC.out (by omega)
      have e0 := hcc i _ (List.getElem?_eq_getElem hiv)
      have HE := Lib.hid (HVE.out i hiv him)
      have hle := HRL.out ps[i] (List.getElem_mem _)
      have HQ1 : Hid (ps[i].contains n = true → r = (i : Int)) := fun e => by rw [← HR.out]; exact partL_at him e HJ.out
      have HQ2 : Hid (ps[i].contains n = false → ∀ j (hj : j < ps.length), j < i + 1 → ps[j].contains n = false) := fun e j hj hji => by
        rcases Nat.lt_or_ge j i with c | c
        · exact HJ.out j hj c
        · obtain rfl : j = i := by omega
          exact e
      clear hcc
      generalize ps[i] = z at *
      generalize vs[i] = u at *
      go_wp2_with fail
      refine (closure51 w D u z n bx HE.out (by omega) HX.out).mono ?_; rintro e w' ⟨rfl, rfl⟩
      cases hz : z.contains n with
      | true =>
        have HF := Lib.hid (HQ1.out hz)
        clear HQ1 HQ2 hz
        go_wp2_with fail
        go_ret
        exact ⟨ret_int HF.out.symm, rfl⟩
      | false =>
        have HN2 := Lib.hid (HQ2.out hz)
        clear HQ1 HQ2 hz
        go_wp2_with fail
        go_round
        case rel => exact ⟨i + 1, by omega, by go_num, HN2⟩
        case measure => simp [intOf]; omega
    · have HF : Hid (r = -1) := by
        show _ = _
        rw [← HR.out]
        exact partL_none fun j hj => HJ.out j hj (by have := HM.out; omega)
      go_wp2_with fail
      go_ret
      exact ⟨ret_int HF.out.symm, rfl⟩

set_option maxHeartbeats 1000000 in
theorem part_any (w : World) (D : Nat) (v : Value) (L : Lay) (n : Int) (h : IsGr w D v L) (hD : D ≤ w.heap.size) (hL : Fits L) :
    Calls Tryd.prog 34 #[v, .int .i64 n] w fun e w' => e = .returned (.int .i64 (partL L.parts n)) ∧ Below w.heap.size w w' := by
  have hb0 := (Below.refl w.heap.size w).alloc (Nat.le_refl _) (.cells #[.int .i64 n] 3)
  have hI := h.keep hb0 hD
  obtain ⟨g, vS, vQ, vP, rfl, hg⟩ := hI
  have f1 := hg.row.cell 2
  simp only [List.getElem?_toArray, List.getElem?_cons_zero, List.getElem?_cons_succ] at f1
  have HQ := Lib.hid hg.p
  have hq := hL.p
  have HQR := Lib.hid hL.r
  have HB0 := Lib.hid hb0
  have HX : Hid ((w.alloc (.cells #[.int .i64 n] 3)).cell? ⟨w.heap.size, 0, none⟩ = some (.int .i64 n)) := by show _ = _; simp
  clear hg h hb0 hL
  go_enter Tryd.func34, Tryd.ntmps34
  go_wp2_with fail
  refine (indexFunc50 _ D w.heap.size vP L.parts n HQ.out hq HQR.out HX.out).mono ?_; rintro e w1 ⟨rfl, rfl⟩
  go_wp2_with fail
  go_ret
  exact ⟨rfl, HB0.out⟩

end Go.Proofs.YtblbbdkpebacbaaDoor

namespace Go.Proofs.YtblbbdkpebacbaaDoor
open Go.RowKit Fl
set_option maxRecDepth 100000

theorem nearL_le (L : Lay) (s : Int) : (nearL L s).length ≤ 4 := by
  have := riseL_le (nearTo L s 2); have := nearTo_le L s 2
  show (riseL (nearTo L s 2)).length ≤ 4; omega

/-- Is a part another one? -/
def otherP (p x : Int) : Bool := !(x == p) && decide (0 ≤ x)
/-- The parts of some sections that are others. -/
def partsOf (L : Lay) (p : Int) (ns : List Int) : List Int := (ns.map (partL L.parts)).filter (otherP p)
def besTo (L : Lay) (p : Int) (ss : List Int) : List Int := ss.flatMap fun s => partsOf L p (nearL L s)
/-- All parts that join one. -/
def besideL (L : Lay) (p : Int) : List Int := if 0 ≤ p ∧ p < (L.parts.length : Int) then riseL (besTo L p (L.parts.getD p.toNat [])) else []

theorem partsOf_take (L : Lay) (p : Int) (ns : List Int) (j : Nat) (h : j < ns.length) : partsOf L p (ns.take (j + 1)) = partsOf L p (ns.take j) ++ (if otherP p (partL L.parts ns[j]) = true then [partL L.parts ns[j]] else []) := by
  unfold partsOf
  rw [List.take_succ_eq_append_getElem h, List.map_append, List.filter_append]
  congr 1
  simp only [List.map_cons, List.map_nil, List.filter_cons, List.filter_nil]
theorem partsOf_le (L : Lay) (p : Int) (ns : List Int) : (partsOf L p ns).length ≤ ns.length := by
  unfold partsOf
  exact Nat.le_trans (List.length_filter_le _ _) (by simp)
theorem besTo_take (L : Lay) (p : Int) (ss : List Int) (i : Nat) (h : i < ss.length) : besTo L p (ss.take (i + 1)) = besTo L p (ss.take i) ++ partsOf L p (nearL L ss[i]) := by
  unfold besTo
  rw [List.take_succ_eq_append_getElem h, List.flatMap_append]
  simp
theorem besTo_le (L : Lay) (p : Int) : ∀ ss : List Int, (besTo L p ss).length ≤ 4 * ss.length
  | [] => by simp [besTo]
  | s :: ss => by
    have h1 := besTo_le L p ss
    have h2 := partsOf_le L p (nearL L s)
    have h3 := nearL_le L s
    have e : besTo L p (s :: ss) = partsOf L p (nearL L s) ++ besTo L p ss := by simp [besTo]
    rw [e, List.length_append, List.length_cons]; omega

end Go.Proofs.YtblbbdkpebacbaaDoor
