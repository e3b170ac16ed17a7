/- Contracts of the document: Find, holds. -/
import Derived.Test.YtblbbdkpebacbaaDoorO4
import Derived.BigQuiet
namespace Go.Proofs.YtblbbdkpebacbaaDoor
open Go.RowKit Fl
set_option maxRecDepth 100000

set_option maxHeartbeats 2000000 in
theorem refFind_any (w : World) (D : Nat) (v : Value) (ps : List Vw) (n : Int) (h : Vws w D v ps) (hD : D ≤ w.heap.size) (hl : ps.length ≤ 100) :
    Calls Tryd.prog 20 #[v, .int .i64 n] w (RetFind D (findV ps n) w) := by
  have hb1 := (Below.refl w.heap.size w).alloc (Nat.le_refl _) (.cells #[.int .i64 0, .bool false, .slice none 0 0] 53)
  have HV := Lib.hid (h.below hb1 hD)
  have HB1 := Lib.hid hb1
  have HR1 := Lib.hid (Row.new w 53 #[.int .i64 0, .bool false, .slice none 0 0])
  obtain ⟨A, c, vs, rfl, -⟩ := h
  clear hb1
  obtain ⟨m, hm⟩ : ∃ m, ps.length = m := ⟨_, rfl⟩
  rw [hm] at HV hl ⊢
  have HM := Lib.hid hm
  clear hm
  go_enter Tryd.func20, Tryd.ntmps20
  go_upto_region 1 with (fail)
  obtain ⟨n1, hn1⟩ : ∃ n, n = w.heap.size := ⟨_, rfl⟩
  have HN : Hid (n1 = w.heap.size) := hn1
  rw [← hn1] at HR1 ⊢
  clear hn1
  generalize w.alloc (.cells #[.int .i64 0, .bool false, .slice none 0 0] 53) = W0 at *
  go_wp2_with fail
  go_loopw [6] (fun k wr => ∃ i : Nat, i ≤ m ∧ k = .int .i64 i ∧ Hid ((∀ j (hj : j < ps.length), j < i → ps[j].1 ≠ n) ∧ wr = W0)) (fun k _ => m - (intOf k).toNat)
  case atStart => exact ⟨0, Nat.zero_le _, rfl, (fun j _ hj => absurd hj (by omega)), rfl⟩
  case round =>
    obtain ⟨i, hi, rfl, HJ⟩ := hrel
    have hwr := HJ.out.2
    subst hwr
    have o0 := HR1.out.cell 0; have o1 := HR1.out.cell 1; have o2 := HR1.out.cell 2
    have q0 := HR1.out.frozen 0; have q1 := HR1.out.frozen 1; have q2 := HR1.out.frozen 2
    simp only [List.getElem?_toArray, List.getElem?_cons_zero, List.getElem?_cons_succ] at o0 o1 o2
    by_cases hlt : i < m
    · have him : i < ps.length := by have := HM.out; omega
      have hli : (i : Int) < (m : Int) := by omega
      obtain ⟨b, o, A1, c1, hA, hb, c0, c2, c3, h4⟩ := HV.out.at i him
      subst hA
      have HS := Lib.hid h4
      have HQ1 : Hid (ps[i].1 = n → findV ps n = some ps[i]) := fun e => findV_at him e HJ.out.1
      have HQ2 : Hid (ps[i].1 ≠ n → ∀ j (hj : j < ps.length), j < i + 1 → ps[j].1 ≠ n) := fun e j hj hji => by
        rcases Nat.lt_or_ge j i with c | c
        · exact HJ.out.1 j hj c
        · obtain rfl : j = i := by omega
          exact e
      clear h4
      generalize ps[i] = z at *
      obtain ⟨z0, z1, z2⟩ := z
      simp only at c0 c2 c3 HS HQ1 HQ2
      obtain ⟨zl, hzl⟩ : ∃ x, z2.length = x := ⟨_, rfl⟩
      have HZL := Lib.hid hzl
      rw [hzl] at c3 HS
      clear hzl
      by_cases hz : z0 = n
      · have HF := Lib.hid (HQ1.out hz)
        subst hz
        have hz2 : (z0 == z0) = true := by simp
        go_wp2_with fail
        have r1 := HR1.out.set 0 (.int .i64 z0)
        have r2 := r1.set 1 (.bool z1)
        have r3 := r2.set 2 (.slice A1 zl c1)
        have hn := HN.out
        refine bodyPost_ret (results_cell_tmp_row rfl _ _ n1 53 #[.int .i64 z0, .bool z1, .slice A1 zl c1] (0, 0) _ rfl r3 Tryd.underlying53 rfl Tryd.size53) rfl ?_
        rw [HF.out]
        have hbb : Below w.heap.size wr (((wr.setCell ⟨n1, 0, none⟩ (.int .i64 z0)).setCell ⟨n1, 1, none⟩ (.bool z1)).setCell ⟨n1, 2, none⟩ (.slice A1 zl c1)) := (((Below.refl _ _).setCell (p := ⟨n1, 0, none⟩) (by show _ ≤ n1; omega) _).setCell (p := ⟨n1, 1, none⟩) (by show _ ≤ n1; omega) _).setCell (p := ⟨n1, 2, none⟩) (by show _ ≤ n1; omega) _
        refine ⟨A1, c1, by simp only [Option.getD_some, HZL.out]; rfl, ?_, HB1.out.trans hbb⟩
        show Rd _ D (.slice A1 z2.length c1) (ivals z2)
        rw [HZL.out]
        exact HS.out.below hbb hD
      · have hz2 : (z0 == n) = false := by simpa using hz
        have HN2 := Lib.hid (HQ2.out hz)
        clear o0 o1 o2 q0 q1 q2
        go_wp2_with fail
        go_roundw
        case rel => exact ⟨i + 1, by omega, by go_num, HN2.out, by first | rfl | trivial⟩
        case measure => simp [intOf]; omega
    · have hli : ¬ (i : Int) < (m : Int) := by omega
      have HR3 : Hid (findV ps n = none) := findV_none fun j hj => HJ.out.1 j hj (by have := HM.out; omega)
      go_wp2_with fail
      have r1 := HR1.out.set 0 (.int .i64 0)
      have r2 := r1.set 1 (.bool false)
      have r3 := r2.set 2 (.slice none 0 0)
      have hn := HN.out
      refine bodyPost_ret (results_cell_tmp_row rfl _ _ n1 53 #[.int .i64 0, .bool false, .slice none 0 0] (0, 0) _ rfl r3 Tryd.underlying53 rfl Tryd.size53) rfl ?_
      rw [HR3.out]
      have hbb : Below w.heap.size wr (((wr.setCell ⟨n1, 0, none⟩ (.int .i64 0)).setCell ⟨n1, 1, none⟩ (.bool false)).setCell ⟨n1, 2, none⟩ (.slice none 0 0)) := (((Below.refl _ _).setCell (p := ⟨n1, 0, none⟩) (by show _ ≤ n1; omega) _).setCell (p := ⟨n1, 1, none⟩) (by show _ ≤ n1; omega) _).setCell (p := ⟨n1, 2, none⟩) (by show _ ≤ n1; omega) _
      exact ⟨none, 0, rfl, Rd.empty _ _, HB1.out.trans hbb⟩

theorem meetsB_comm_aux (a b : List Int) : meetsB b a = meetsB a b := meets_comm b a

end Go.Proofs.YtblbbdkpebacbaaDoor
