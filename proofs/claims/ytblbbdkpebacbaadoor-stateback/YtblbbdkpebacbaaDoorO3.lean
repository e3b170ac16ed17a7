/- Contracts of own: find, isIn, Start. -/
import Derived.Test.YtblbbdkpebacbaaDoorO2
import Derived.Laws.ResultCell
import Derived.Laws.Rows
namespace Go.Proofs.YtblbbdkpebacbaaDoor
open Go.RowKit Fl
set_option maxRecDepth 100000

theorem results_cell_tmp_row {P : Program} {fn : Func} {p u : Tmp} {ty : TypeId} (h : fn.results = #[.cell p ty, .tmp u]) (tmps : Array Value) (w : World) (g : Nat) (t : TypeId) (cs : Array Value) (fr : Nat × Nat) (d : TypeDesc)
    (hp : tmps.getD p undef = .pointer (some ⟨g, 0, none⟩)) (hg : w.heap[g]? = some (.cells cs t fr))
    (hu : P.underlying ty = some d) (hd : (match d with | .struct _ | .array _ _ => true | _ => false) = true) (hi : (P.info? ty).map (·.size) = some cs.size) :
    (results fn tmps).run P w = .ok (.tuple #[.agg cs, tmps.getD u undef]) w := by
  rw [results_cell_tmp h, hp]
  simp [asAddr, run_loadVar_row w g t ty cs fr d hg hu hd hi, Result.andThen]
theorem Tryd.size73 : (Tryd.prog.info? 73).map (·.size) = some 3 := by kernel_rfl
theorem Tryd.size53 : (Tryd.prog.info? 53).map (·.size) = some 3 := by kernel_rfl

theorem closureF (w : World) (a n : Int) (s : Bool) (A : Option Addr) (k c : Nat) (bx : Nat) (hx : w.cell? ⟨bx, 0, none⟩ = some (.int .i64 n)) :
    Calls Tryd.prog 52 #[.agg #[.int .i64 a, .bool s, .slice A k c], .pointer (some ⟨bx, 0, none⟩)] w fun e w' => e = .returned (.bool (a == n)) ∧ Below w.heap.size w w' := by
  have k0 := cell_alloc (o := .cells #[.int .i64 a, .bool s, .slice A k c] 73) hx
  have HB := Lib.hid ((Below.refl w.heap.size w).alloc (Nat.le_refl _) (.cells #[.int .i64 a, .bool s, .slice A k c] 73))
  clear hx
  go_enter Tryd.func52, Tryd.ntmps52
  go_wp2_with fail
  go_ret
  exact ⟨rfl, HB.out⟩

set_option maxHeartbeats 2000000 in
theorem indexV (w : World) (D bx : Nat) (v : Value) (ps : List Vw) (n : Int) (h : Vws w D v ps) (hD : D ≤ w.heap.size) (hl : ps.length ≤ 100) (hx : w.cell? ⟨bx, 0, none⟩ = some (.int .i64 n)) (hbx : bx < w.heap.size) :
    Calls Tryd.prog 51 #[v, .func (.func 52) #[] #[.pointer (some ⟨bx, 0, none⟩)]] w fun e w' => e = .returned (.int .i64 (findI ps n)) ∧ Below w.heap.size w w' := by
  have HP := Lib.hid h
  obtain ⟨A, c, vs, rfl, -⟩ := h
  have HX := Lib.hid hx
  clear hx
  obtain ⟨r, hr⟩ : ∃ r, findI ps n = r := ⟨_, rfl⟩
  rw [hr]
  have HR := Lib.hid hr
  clear hr
  obtain ⟨m, hm⟩ : ∃ m, ps.length = m := ⟨_, rfl⟩
  rw [hm] at HP hl ⊢
  have HM := Lib.hid hm
  clear hm
  obtain ⟨B0, hB0⟩ : ∃ n, n = w.heap.size := ⟨_, rfl⟩
  rw [← hB0] at hD hbx
  have HB0 := Lib.hid hB0
  clear hB0
  go_enter Tryd.func51, Tryd.ntmps51
  go_wp2_with fail
  go_loopw [8] (fun k wr => ∃ i : Nat, i ≤ m ∧ k = .int .i64 i ∧ Hid ((∀ j (hj : j < ps.length), j < i → ps[j].1 ≠ n) ∧ Below B0 w wr)) (fun k _ => m - (intOf k).toNat)
  case atStart => exact ⟨0, Nat.zero_le _, rfl, fun j _ hj => absurd hj (by omega), Below.refl _ _⟩
  case round =>
    obtain ⟨i, hi, rfl, HJ⟩ := hrel
    by_cases hlt : i < m
    · have him : i < ps.length := by have := HM.out; omega
      obtain ⟨b, o, A1, c1, rfl, hb, c0, c2, c3, -⟩ := HP.out.at i him
      have lift : ∀ p : Addr, p.block < B0 → wr.cell? p = w.cell? p := fun p hp => HJ.out.2.cell (p := p) hp
      have e0 := (lift ⟨b, o + i * 3, none⟩ (by show b < B0; omega)).trans c0
      have e1 := (lift ⟨b, o + i * 3 + 1, none⟩ (by show b < B0; omega)).trans c2
      have e2 := (lift ⟨b, o + i * 3 + 2, none⟩ (by show b < B0; omega)).trans c3
      have HXR : Hid (wr.cell? ⟨bx, 0, none⟩ = some (.int .i64 n)) := (lift ⟨bx, 0, none⟩ hbx).trans HX.out
      have HQ1 : Hid (ps[i].1 = n → r = (i : Int)) := fun e => by rw [← HR.out]; exact findI_at him e HJ.out.1
      have HQ2 : Hid (ps[i].1 ≠ n → ∀ j (hj : j < ps.length), j < i + 1 → ps[j].1 ≠ n) := fun e j hj hji => by
        rcases Nat.lt_or_ge j i with c | c
        · exact HJ.out.1 j hj c
        · obtain rfl : j = i := by omega
          exact e
      clear lift c0 c2 c3
      generalize ps[i] = z at *
      obtain ⟨z0, z1, z2⟩ := z
      simp only at e0 e1 e2 HQ1 HQ2
      generalize z2.length = zl at *
      go_wp2_with fail
      refine (closureF wr z0 n z1 A1 zl c1 bx HXR.out).mono ?_; rintro e w1 ⟨rfl, hb1⟩
      have HB1 : Hid (Below B0 w w1) := HJ.out.2.trans (hb1.mono (by have := HJ.out.2.size; have := HB0.out; omega))
      clear hb1 e0 e1 e2
      by_cases hz : z0 = n
      · have HF := Lib.hid (HQ1.out hz)
        subst hz
        go_wp2_with fail
        go_ret
        exact ⟨ret_int HF.out.symm, by rw [← HB0.out]; exact HB1.out⟩
      · have hz2 : (z0 == n) = false := by simpa using hz
        have HN2 := Lib.hid (HQ2.out hz)
        go_wp2_with fail
        go_roundw
        case rel => exact ⟨i + 1, by omega, by go_num, HN2.out, HB1.out⟩
        case measure => simp [intOf]; omega
    · have HF : Hid (r = -1) := by
        show _ = _
        rw [← HR.out]
        exact findI_none fun j hj => HJ.out.1 j hj (by have := HM.out; omega)
      go_wp2_with fail
      go_ret
      exact ⟨ret_int HF.out.symm, by rw [← HB0.out]; exact HJ.out.2⟩

set_option maxHeartbeats 2000000 in
theorem find_any (w : World) (D : Nat) (v : Value) (ps : List Vw) (n : Int) (h : Vws w D v ps) (hD : D ≤ w.heap.size) (hl : ps.length ≤ 100) :
    Calls Tryd.prog 49 #[v, .int .i64 n] w (RetFind D (findV ps n) w) := by
  have hb1 := below2 w (.cells #[.int .i64 n] 3) (.cells #[.int .i64 0, .bool false, .slice none 0 0] 73)
  have HV := Lib.hid (h.below hb1 hD)
  have HB1 := Lib.hid hb1
  have hx : ((w.alloc (.cells #[.int .i64 n] 3)).alloc (.cells #[.int .i64 0, .bool false, .slice none 0 0] 73)).cell? ⟨w.heap.size, 0, none⟩ = some (.int .i64 n) := ((Row.new w 3 #[.int .i64 n]).alloc _).cell 0
  have HX := Lib.hid hx
  have hr1 := Row.new (w.alloc (.cells #[.int .i64 n] 3)) 73 #[.int .i64 0, .bool false, .slice none 0 0]
  rw [World.size_alloc] at hr1
  have HR1 := Lib.hid hr1
  have hc := findI_cases ps n
  have HC := Lib.hid hc
  obtain ⟨A, c, vs, rfl, -⟩ := h
  clear hx hr1 hb1 hc
  have HIX : Hid (∀ W : World, Below w.heap.size ((w.alloc (.cells #[.int .i64 n] 3)).alloc (.cells #[.int .i64 0, .bool false, .slice none 0 0] 73)) W → W = ((w.alloc (.cells #[.int .i64 n] 3)).alloc (.cells #[.int .i64 0, .bool false, .slice none 0 0] 73)) → Calls Tryd.prog 51 #[.slice A ps.length c, .func (.func 52) #[] #[.pointer (some ⟨w.heap.size, 0, none⟩)]] W fun e w' => e = .returned (.int .i64 (findI ps n)) ∧ Below W.heap.size W w') := fun W _ hW => by
    subst hW
    exact indexV _ D w.heap.size _ ps n HV.out (by simp; omega) hl HX.out (by simp; omega)
  have hHI := HIX.out _ (Below.refl _ _) rfl
  have HI := Lib.hid hHI
  clear HIX hHI HX
  go_enter Tryd.func49, Tryd.ntmps49
  go_upto_region 1 with (fail)
  obtain ⟨n0, hn0⟩ : ∃ n, n = w.heap.size := ⟨_, rfl⟩
  obtain ⟨n1, hn1⟩ : ∃ n, n = n0 + 1 := ⟨_, rfl⟩
  have HN : Hid (n0 = w.heap.size ∧ n1 = n0 + 1) := ⟨hn0, hn1⟩
  rw [← hn0] at HR1 HI ⊢
  rw [← hn1] at HR1 ⊢
  clear hn0 hn1
  generalize (w.alloc (.cells #[.int .i64 n] 3)).alloc (.cells #[.int .i64 0, .bool false, .slice none 0 0] 73) = W0 at *
  go_wp2_with fail
  refine HI.out.mono ?_; rintro e w1 ⟨rfl, hb⟩
  have HB2 : Hid (Below w.heap.size w w1) := HB1.out.trans (hb.mono HB1.out.size)
  have HR2 := Lib.hid (Below.row hb HR1.out HR1.out.lt)
  have HV2 := Lib.hid (HV.out.below hb (Nat.le_trans hD HB1.out.size))
  clear hb HI HR1 HV HB1
  obtain ⟨r, hr⟩ : ∃ r, findV ps n = r := ⟨_, rfl⟩
  have HRR := Lib.hid hr
  clear hr
  have o0 := HR2.out.cell 0; have o1 := HR2.out.cell 1; have o2 := HR2.out.cell 2
  have q0 := HR2.out.frozen 0; have q1 := HR2.out.frozen 1; have q2 := HR2.out.frozen 2
  simp only [List.getElem?_toArray, List.getElem?_cons_zero, List.getElem?_cons_succ] at o0 o1 o2
  rcases HC.out with ⟨i, hi, h1, h2⟩ | ⟨h1, h2⟩
  · rw [h1]
    obtain ⟨b, o, A1, c1, hA, hb, c0, c2, c3, h4⟩ := HV2.out.at i hi
    subst hA
    have HR3 : Hid (r = some ps[i]) := by show _ = _; rw [← HRR.out]; exact h2
    have HS := Lib.hid h4
    have hil : (i : Int) < (ps.length : Int) := by omega
    have hi0 : ¬ (i : Int) < 0 := by omega
    clear h1 h2 h4 HC HV2
    generalize ps[i] = z at *
    obtain ⟨z0, z1, z2⟩ := z
    simp only at c0 c2 c3 HS
    generalize ps.length = m at *
    obtain ⟨zl, hzl⟩ : ∃ x, z2.length = x := ⟨_, rfl⟩
    have HZL := Lib.hid hzl
    rw [hzl] at c3 HS
    clear hzl
    have hbn : b < n0 := by have := HN.out.1; omega
    have HBN := Lib.hid hbn
    go_wp2_with fail
    have r1 := HR2.out.set 0 (.int .i64 z0)
    have r2 := r1.set 1 (.bool z1)
    have r3 := r2.set 2 (.slice A1 zl c1)
    have hn := HN.out
    refine bodyPost_ret (results_cell_tmp_row rfl _ _ n1 73 #[.int .i64 z0, .bool z1, .slice A1 zl c1] (0, 0) _ rfl r3 Tryd.underlying73 rfl Tryd.size73) rfl ?_
    rw [HRR.out.trans HR3.out]
    have hbb : Below w.heap.size w1 (((w1.setCell ⟨n1, 0, none⟩ (.int .i64 z0)).setCell ⟨n1, 1, none⟩ (.bool z1)).setCell ⟨n1, 2, none⟩ (.slice A1 zl c1)) := (((Below.refl _ _).setCell (p := ⟨n1, 0, none⟩) (by show _ ≤ n1; omega) _).setCell (p := ⟨n1, 1, none⟩) (by show _ ≤ n1; omega) _).setCell (p := ⟨n1, 2, none⟩) (by show _ ≤ n1; omega) _
    refine ⟨A1, c1, by simp only [Option.getD_some, HZL.out]; rfl, ?_, HB2.out.trans hbb⟩
    show Rd _ D (.slice A1 z2.length c1) (ivals z2)
    rw [HZL.out]
    exact HS.out.below hbb hD
  · rw [h1]
    have HR3 : Hid (r = none) := by show _ = _; rw [← HRR.out]; exact h2
    clear h1 h2 HC HV2
    go_wp2_with fail
    have r1 := HR2.out.set 0 (.int .i64 0)
    have r2 := r1.set 1 (.bool false)
    have r3 := r2.set 2 (.slice none 0 0)
    have hn := HN.out
    refine bodyPost_ret (results_cell_tmp_row rfl _ _ n1 73 #[.int .i64 0, .bool false, .slice none 0 0] (0, 0) _ rfl r3 Tryd.underlying73 rfl Tryd.size73) rfl ?_
    rw [HRR.out.trans HR3.out]
    have hbb : Below w.heap.size w1 (((w1.setCell ⟨n1, 0, none⟩ (.int .i64 0)).setCell ⟨n1, 1, none⟩ (.bool false)).setCell ⟨n1, 2, none⟩ (.slice none 0 0)) := (((Below.refl _ _).setCell (p := ⟨n1, 0, none⟩) (by show _ ≤ n1; omega) _).setCell (p := ⟨n1, 1, none⟩) (by show _ ≤ n1; omega) _).setCell (p := ⟨n1, 2, none⟩) (by show _ ≤ n1; omega) _
    exact ⟨none, 0, rfl, Rd.empty _ _, HB2.out.trans hbb⟩
end Go.Proofs.YtblbbdkpebacbaaDoor
