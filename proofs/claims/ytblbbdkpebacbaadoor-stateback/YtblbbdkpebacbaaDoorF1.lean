/- Contract of own: Find; the law OwnFinds. -/
import Derived.Test.YtblbbdkpebacbaaDoorQ1
namespace Go.Proofs.YtblbbdkpebacbaaDoor
open Go.RowKit Fl
set_option maxRecDepth 100000

/-- What own's Find answers: the span is a copy. -/
def RetFindC (r : Option Vw) (w : World) (e : Ending) (w' : World) : Prop :=
  ∃ A c, e = .returned (.tuple #[.agg #[.int .i64 (r.getD noV).1, .bool (r.getD noV).2.1, .slice A (r.getD noV).2.2.length c], .bool r.isSome]) ∧ Rd w' w'.heap.size (.slice A (r.getD noV).2.2.length c) (ivals (r.getD noV).2.2) ∧ Below w.heap.size w w'

set_option maxHeartbeats 2000000 in
theorem findC_any (w : World) (v : Value) (ps : List Vw) (n : Int) (h : Vws w w.heap.size v ps) (hl : ps.length ≤ 100) (hs : ∀ p ∈ ps, p.2.2.length ≤ 1000) :
    Calls Tryd.prog 39 #[v, .int .i64 n] w (RetFindC (findV ps n) w) := by
  have hb1 := (Below.refl w.heap.size w).alloc (Nat.le_refl _) (.cells #[.int .i64 0, .bool false, .slice none 0 0] 73)
  have HV := Lib.hid (h.up hb1)
  have HB1 := Lib.hid hb1
  have HR1 := Lib.hid (Row.new w 73 #[.int .i64 0, .bool false, .slice none 0 0])
  have HSL : Hid ((((findV ps n).getD noV).2.2).length ≤ 1000) := by
    show _ ≤ _
    cases e : findV ps n with
    | none => simp [noV]
    | some z => exact hs z (List.mem_of_find?_eq_some e)
  obtain ⟨A, c, vs, rfl, -⟩ := h
  clear hb1 hs
  go_enter Tryd.func39, Tryd.ntmps39
  go_upto_region 1 with (fail)
  obtain ⟨n1, hn1⟩ : ∃ n, n = w.heap.size := ⟨_, rfl⟩
  have HN : Hid (n1 = w.heap.size) := hn1
  rw [← hn1] at HR1 ⊢
  clear hn1
  generalize w.alloc (.cells #[.int .i64 0, .bool false, .slice none 0 0] 73) = W0 at *
  go_wp2_with fail
  refine (find_any W0 W0.heap.size _ ps n HV.out (Nat.le_refl _) hl).mono ?_; rintro e w2 ⟨A5, c5, rfl, h5, hb2⟩
  obtain ⟨r, hr⟩ : ∃ r, findV ps n = r := ⟨_, rfl⟩
  have HRR := Lib.hid hr
  rw [hr] at h5 HSL
  have e1 : ((findV ps n).getD noV).1 = (r.getD noV).1 := by rw [hr]
  rw [hr]
  clear hr e1
  have h5' : Rd w2 w2.heap.size (.slice A5 (r.getD noV).2.2.length c5) (ivals (r.getD noV).2.2) := Rd.mono h5 hb2.size (fun _ _ => rfl)
  have hb3 := (Below.refl w2.heap.size w2).alloc (Nat.le_refl _) (.cells #[.int .i64 (r.getD noV).1, .bool (r.getD noV).2.1, .slice A5 (r.getD noV).2.2.length c5] 73)
  have hbb := hb2.trans (hb3.mono hb2.size)
  have HB3 : Hid (Below w.heap.size w (w2.alloc (.cells #[.int .i64 (r.getD noV).1, .bool (r.getD noV).2.1, .slice A5 (r.getD noV).2.2.length c5] 73))) := HB1.out.trans (hbb.mono HB1.out.size)
  have HR3 := Lib.hid (Below.row hbb HR1.out HR1.out.lt)
  have HQ3 := Lib.hid (Row.new w2 73 #[.int .i64 (r.getD noV).1, .bool (r.getD noV).2.1, .slice A5 (r.getD noV).2.2.length c5])
  have HS3 := Lib.hid (h5'.up hb3)
  have HNQ : Hid (n1 < w2.heap.size) := by have := HR1.out.lt; have := hb2.size; show _ < _; omega
  clear hb2 hb3 hbb h5 h5' HB1 HR1 HV
  obtain ⟨vr, hvr⟩ : ∃ x, r.getD noV = x := ⟨_, rfl⟩
  have HVR := Lib.hid hvr
  rw [hvr] at HSL HB3 HR3 HQ3 HS3
  go_upto_region 2 with (fail)
  try rw [hvr]
  clear hvr
  obtain ⟨z0, z1, z2⟩ := vr
  simp only at HSL HB3 HR3 HQ3 HS3
  obtain ⟨n2, hn2⟩ : ∃ n, n = w2.heap.size := ⟨_, rfl⟩
  rw [← hn2] at HQ3 HNQ ⊢
  clear hn2
  obtain ⟨zl, hzl⟩ : ∃ n, z2.length = n := ⟨_, rfl⟩
  have HZL := Lib.hid hzl
  rw [hzl] at HB3 HR3 HQ3 HS3 HSL
  try simp only [hzl]
  generalize w2.alloc (.cells #[.int .i64 z0, .bool z1, .slice A5 zl c5] 73) = w3 at *
  clear hzl
  have q2 := HQ3.out.cell 2; have y2 := HQ3.out.frozen 2
  simp only [List.getElem?_toArray, List.getElem?_cons_zero, List.getElem?_cons_succ] at q2
  go_wp2_with fail
  refine (clone38 w3 w3.heap.size _ z2 HS3.out (by have := HSL.out; have := HZL.out; omega)).mono ?_; rintro e w4 ⟨v4, rfl, ho4, hb4⟩
  obtain ⟨A4, c4, hv4⟩ := own_slice ho4
  subst hv4
  have HB4 : Hid (Below w.heap.size w w4) := HB3.out.trans (hb4.mono HB3.out.size)
  have HR4 := Lib.hid (Below.row hb4 HR3.out HR3.out.lt)
  have HQ4 := Lib.hid (Below.row hb4 HQ3.out HQ3.out.lt)
  have HO4 := Lib.hid ho4
  have HNW : Hid (n2 < w3.heap.size ∧ n1 < n2) := ⟨HQ3.out.lt, HNQ.out⟩
  clear hb4 ho4 HB3 HR3 HQ3 HS3 q2 y2
  have q2 := HQ4.out.cell 2; have y2 := HQ4.out.frozen 2
  simp only [List.getElem?_toArray, List.getElem?_cons_zero, List.getElem?_cons_succ] at q2
  go_upto_region 3 with (fail)
  clear q2 y2
  have hb5 := (Below.refl n2 w4).setCell (p := ⟨n2, 2, none⟩) (Nat.le_refl _) (.slice A4 z2.length c4)
  have HQ5 : Hid (Row (w4.setCell ⟨n2, 2, none⟩ (.slice A4 z2.length c4)) n2 73 #[.int .i64 z0, .bool z1, .slice A4 z2.length c4]) := HQ4.out.set 2 _
  have HR5 : Hid (Row (w4.setCell ⟨n2, 2, none⟩ (.slice A4 z2.length c4)) n1 73 #[.int .i64 0, .bool false, .slice none 0 0]) := Below.row hb5 HR4.out HNW.out.2
  have HB5 : Hid (Below w.heap.size w (w4.setCell ⟨n2, 2, none⟩ (.slice A4 z2.length c4))) := HB4.out.setCell (p := ⟨n2, 2, none⟩) (by have := HN.out; have := HNW.out; show _ ≤ n2; omega) _
  have HO5 : Hid ((w4.setCell ⟨n2, 2, none⟩ (.slice A4 z2.length c4)).ownsRow w3.heap.size 3 1 (.slice A4 z2.length c4) z2.length (ivals z2)) := ownsRow_setCell_below HO4.out (a := ⟨n2, 2, none⟩) HNW.out.1 _
  clear hb5 HQ4 HR4 HB4 HO4
  generalize w4.setCell ⟨n2, 2, none⟩ (.slice A4 z2.length c4) = w5 at *
  have q0 := HQ5.out.cell 0; have q1 := HQ5.out.cell 1; have q2 := HQ5.out.cell 2
  have o0 := HR5.out.cell 0; have o1 := HR5.out.cell 1; have o2 := HR5.out.cell 2
  have y0 := HR5.out.frozen 0; have y1 := HR5.out.frozen 1; have y2 := HR5.out.frozen 2
  simp only [List.getElem?_toArray, List.getElem?_cons_zero, List.getElem?_cons_succ] at o0 o1 o2 q0 q1 q2
  generalize hzz : z2.length = zk at *
  go_wp2_with fail
  have r1 := HR5.out.set 0 (.int .i64 z0)
  have r2 := r1.set 1 (.bool z1)
  have r3 := r2.set 2 (.slice A4 zk c4)
  have hn := HN.out
  refine bodyPost_ret (results_cell_tmp_row rfl _ _ n1 73 #[.int .i64 z0, .bool z1, .slice A4 zk c4] (0, 0) _ rfl r3 Tryd.underlying73 rfl Tryd.size73) rfl ?_
  rw [HRR.out]
  have hbb : Below n1 w5 (((w5.setCell ⟨n1, 0, none⟩ (.int .i64 z0)).setCell ⟨n1, 1, none⟩ (.bool z1)).setCell ⟨n1, 2, none⟩ (.slice A4 zk c4)) := (((Below.refl _ _).setCell (p := ⟨n1, 0, none⟩) (Nat.le_refl _) _).setCell (p := ⟨n1, 1, none⟩) (Nat.le_refl _) _).setCell (p := ⟨n1, 2, none⟩) (Nat.le_refl _) _
  have ho6 : (((w5.setCell ⟨n1, 0, none⟩ (.int .i64 z0)).setCell ⟨n1, 1, none⟩ (.bool z1)).setCell ⟨n1, 2, none⟩ (.slice A4 zk c4)).ownsRow w3.heap.size 3 1 (.slice A4 zk c4) zk (ivals z2) := by
    have hlt : n1 < w3.heap.size := by have := HNW.out; omega
    exact ownsRow_setCell_below (ownsRow_setCell_below (ownsRow_setCell_below HO5.out (a := ⟨n1, 0, none⟩) hlt _) (a := ⟨n1, 1, none⟩) hlt _) (a := ⟨n1, 2, none⟩) hlt _
  have hrd := Rd.of_own ho6
  unfold RetFindC
  rw [HVR.out]
  refine ⟨A4, c4, by simp only [hzz]; rfl, ?_, HB5.out.trans (hbb.mono (by omega))⟩
  simp only [hzz]
  exact hrd
end Go.Proofs.YtblbbdkpebacbaaDoor
