/- Contract: through. -/
import Derived.Test.YtifcgkpannlnnaaF1
namespace Go.Proofs.Ytifcgkpannlnnaa
open Go.RowKit Fl
set_option maxRecDepth 100000

theorem Try.size85 : (Try.prog.info? 85).map (·.size) = some 2 := by kernel_rfl
def RetThru (r : Option (Int × Int)) (w : World) (e : Ending) (w' : World) : Prop :=
  e = .returned (.tuple #[.agg #[.int .i64 (r.getD (0, 0)).1, .int .i64 (r.getD (0, 0)).2], .bool r.isSome]) ∧ Below w.heap.size w w'

set_option maxHeartbeats 8000000 in
theorem thru_any (w : World) (D : Nat) (v : Value) (L : Lay) (s k : Int) (A : Option Addr) (c : Nat) (ns : List Int) (h : IsGr w D v L) (hD : D ≤ w.heap.size) (hL : Fits L) (hn : Rd w w.heap.size (.slice A ns.length c) (ivals ns)) (hnl : ns.length ≤ 1000) :
    Calls Try.prog 51 #[v, .agg #[.int .i64 s, .int .i64 k], .slice A ns.length c] w (RetThru (thruL L (s, k) ns) w) := by
  have hb0 := below2 w (.cells #[.int .i64 s, .int .i64 k] 85) (.cells #[.int .i64 0, .int .i64 0] 85)
  have HI := Lib.hid h
  have HB0 := Lib.hid hb0
  have HRW := Lib.hid ((Row.new w 85 #[.int .i64 s, .int .i64 k]).alloc (.cells #[.int .i64 0, .int .i64 0] 85))
  have hr1 := Row.new (w.alloc (.cells #[.int .i64 s, .int .i64 k] 85)) 85 #[.int .i64 0, .int .i64 0]
  rw [World.size_alloc] at hr1
  have HRZ := Lib.hid hr1
  have HNS := Lib.hid hn
  obtain ⟨g, vS, vQ, vP, rfl, -⟩ := h
  have HL := Lib.hid hL
  clear hb0 hL hn hr1
  obtain ⟨r, hr⟩ : ∃ r, thruL L (s, k) ns = r := ⟨_, rfl⟩
  rw [hr]
  have HR : Hid (r = thruL L (s, k) (ns.drop 0)) := by show _ = _; rw [← hr]; simp
  clear hr
  go_enter Try.func51, Try.ntmps51
  go_upto_region 1 with (fail)
  obtain ⟨n0, hn0⟩ : ∃ n, n = w.heap.size := ⟨_, rfl⟩
  obtain ⟨B0, hB0⟩ : ∃ n, n = w.heap.size := ⟨_, rfl⟩
  obtain ⟨n1, hn1⟩ : ∃ n, n = n0 + 1 := ⟨_, rfl⟩
  rw [← hB0] at HB0 HNS
  rw [← hn0] at HRW HRZ ⊢
  rw [← hn1] at HRZ ⊢
  have HN : Hid (n0 = w.heap.size ∧ B0 = n0 ∧ D ≤ B0 ∧ n1 = n0 + 1) := ⟨hn0, by omega, by omega, hn1⟩
  have hDB : D ≤ B0 := by omega
  clear hn0 hB0 hD hn1
  generalize (w.alloc (.cells #[.int .i64 s, .int .i64 k] 85)).alloc (.cells #[.int .i64 0, .int .i64 0] 85) = W0 at *
  go_wp2_with fail
  go_loopw [14] (fun k9 wr => ∃ (j : Nat) (e1 e2 : Int), j ≤ ns.length ∧ k9 = .int .i64 j ∧ Hid (r = thruL L (e1, e2) (ns.drop j) ∧ Below B0 w wr ∧ Row wr n0 85 #[.int .i64 e1, .int .i64 e2] ∧ Row wr n1 85 #[.int .i64 0, .int .i64 0])) (fun k9 _ => ns.length - (intOf k9).toNat)
  case atStart => exact ⟨0, s, k, Nat.zero_le _, rfl, HR.out, HB0.out, HRW.out, HRZ.out⟩
  case round =>
    obtain ⟨j, e1, e2, hj, rfl, HJ⟩ := hrel
    by_cases hlt : j < ns.length
    · have HDR : Hid (ns.drop j = ns[j] :: ns.drop (j + 1)) := List.drop_eq_getElem_cons hlt
      obtain ⟨bn, on, hA, -, q0⟩ := (HNS.out.below HJ.out.2.1 (Nat.le_refl _)).at (i := j) (u := .int .i64 ns[j]) (by simp [ivals, hlt])
      subst hA
      generalize ns[j] = x at *
      have hba := (Below.refl wr.heap.size wr).alloc (Nat.le_refl _) (.cells #[.int .i64 x] 3)
      have HB1 : Hid (Below B0 w (wr.alloc (.cells #[.int .i64 x] 3))) := HJ.out.2.1.trans (hba.mono (by have := HJ.out.2.1.size; have := HN.out; omega))
      have HE1 := Lib.hid (HJ.out.2.2.1.alloc (.cells #[.int .i64 x] 3))
      have HZ1 := Lib.hid (HJ.out.2.2.2.alloc (.cells #[.int .i64 x] 3))
      have HX1 := Lib.hid (Row.new wr 3 #[.int .i64 x])
      have HR0 : Hid (r = thruL L (e1, e2) (x :: ns.drop (j + 1))) := by show _ = _; rw [HJ.out.1, HDR.out]
      clear hba HJ HDR
      go_upto_region 4 with (fail)
      obtain ⟨nx, hnx⟩ : ∃ n, n = wr.heap.size := ⟨_, rfl⟩
      rw [← hnx] at HX1 ⊢
      clear hnx q0
      generalize wr.alloc (.cells #[.int .i64 x] 3) = w1 at *
      have f0 := HE1.out.cell 0; have f1 := HE1.out.cell 1
      simp only [List.getElem?_toArray, List.getElem?_cons_zero, List.getElem?_cons_succ] at f0 f1
      go_wp2_with fail
      refine (around_any w1 D _ L e1 e2 (HI.out.keep HB1.out hDB) (by have := HB1.out.size; have := HN.out; omega) HL.out).mono ?_; rintro e w2 ⟨v2, rfl, hp2, hb2⟩
      obtain ⟨A2, c2, hv2, -⟩ := id hp2
      subst hv2
      have HB2 : Hid (Below B0 w w2) := HB1.out.trans (hb2.mono (by have := HB1.out.size; have := HN.out; omega))
      have HE2 := Lib.hid (Below.row hb2 HE1.out HE1.out.lt)
      have HZ2 := Lib.hid (Below.row hb2 HZ1.out HZ1.out.lt)
      have HX2 := Lib.hid (Below.row hb2 HX1.out HX1.out.lt)
      have HP2 := Lib.hid hp2
      have hal := aroundL_le L (e1, e2)
      have HSD := Lib.hid (aroundL_snd L (e1, e2))
      have HW0 : Hid (inL (aroundL L (e1, e2)) x = none → r = none) := fun h0 => by rw [HR0.out, thruL_none h0]
      have HW1 : Hid (∀ i, inL (aroundL L (e1, e2)) x = some i → r = thruL L (x, 1 - ((aroundL L (e1, e2)).getD i (0, 0)).2) (ns.drop (j + 1))) := fun i h0 => by rw [HR0.out, thruL_some h0]
      clear hb2 hp2 f0 f1 HB1 HE1 HX1 HR0 HZ1
      generalize aroundL L (e1, e2) = es at *
      have x0 := HX2.out.cell 0
      simp only [List.getElem?_toArray, List.getElem?_cons_zero] at x0
      go_wp2_with fail
      refine (indexEnds64 w2 w2.heap.size nx _ es x HP2.out (Nat.le_refl _) (by omega) x0 HX2.out.lt).mono ?_; rintro e w3 ⟨rfl, hb3⟩
      have HB3 : Hid (Below B0 w w3) := HB2.out.trans (hb3.mono (by have := HB2.out.size; have := HN.out; omega))
      have HE3 := Lib.hid (Below.row hb3 HE2.out HE2.out.lt)
      have HZ3 := Lib.hid (Below.row hb3 HZ2.out HZ2.out.lt)
      have HX3 := Lib.hid (Below.row hb3 HX2.out HX2.out.lt)
      have HP3 := Lib.hid (HP2.out.up hb3)
      clear hb3 x0 HB2 HE2 HX2 HP2 HZ2
      cases hin : inL es x with
      | none =>
        have HRN := Lib.hid (HW0.out hin)
        clear HW0 HW1 hin
        simp only [idxI]
        have z0 := HZ3.out.cell 0; have z1 := HZ3.out.cell 1; have y0 := HZ3.out.frozen 0; have y1 := HZ3.out.frozen 1
        simp only [List.getElem?_toArray, List.getElem?_cons_zero, List.getElem?_cons_succ] at z0 z1
        have rs : Row ((w3.setCell ⟨n1, 0, none⟩ (.int .i64 0)).setCell ⟨n1, 1, none⟩ (.int .i64 0)) n1 85 #[.int .i64 0, .int .i64 0] := (HZ3.out.set 0 (.int .i64 0)).set 1 (.int .i64 0)
        have HRS := Lib.hid rs
        clear rs
        go_wp2_with fail
        refine bodyPost_ret (results_cell_tmp_row rfl _ _ n1 85 #[.int .i64 0, .int .i64 0] (0, 0) _ rfl HRS.out Try.underlying85 rfl Try.size85) rfl ?_
        have hn := HN.out
        rw [HRN.out]
        exact ⟨rfl, by rw [← hn.1, ← hn.2.1]; exact (HB3.out.setCell (p := ⟨n1, 0, none⟩) (by show B0 ≤ n1; omega) _).setCell (p := ⟨n1, 1, none⟩) (by show B0 ≤ n1; omega) _⟩
      | some i =>
        have hilt := inL_lt hin
        have HW := Lib.hid (HW1.out i hin)
        have hgd : es.getD i (0, 0) = es[i] := by simp [List.getD, hilt]
        rw [hgd] at HW
        have hsd := HSD.out es[i] (List.getElem_mem _)
        clear HW0 HW1 hin hgd
        obtain ⟨z, hzi⟩ : ∃ z, es[i] = z := ⟨_, rfl⟩
        rw [hzi] at HW hsd
        obtain ⟨z0, z1⟩ := z
        simp only [idxI] at HW hsd ⊢
        have hii : ¬ (i : Int) < 0 := by omega
        obtain ⟨b2, o2, hA2, -, g0, g1⟩ := HP3.out.at i hilt
        subst hA2
        rw [hzi] at g0 g1
        simp only at g0 g1
        have x0 := HX3.out.cell 0
        simp only [List.getElem?_toArray, List.getElem?_cons_zero] at x0
        go_upto_region 8 with (fail)
        go_still_tail 8, (by kernel_rfl)
        change wpList _ _ _ _ _ w3.drew
        have HB8 : Hid (Below B0 w w3.drew) := HB3.out.drew
        have HE8 : Hid (Row w3.drew n0 85 #[.int .i64 e1, .int .i64 e2]) := HE3.out
        have HZ8 : Hid (Row w3.drew n1 85 #[.int .i64 0, .int .i64 0]) := HZ3.out
        clear g0 g1 x0 HB3 HE3 HX3 HP3 HZ3
        generalize w3.drew = wd at *
        have f0 := HE8.out.cell 0; have f1 := HE8.out.cell 1; have f2 := HE8.out.frozen 0; have f3 := HE8.out.frozen 1
        simp only [List.getElem?_toArray, List.getElem?_cons_zero, List.getElem?_cons_succ] at f0 f1
        have rs : Row ((wd.setCell ⟨n0, 0, none⟩ (.int .i64 x)).setCell ⟨n0, 1, none⟩ (.int .i64 (1 - z1))) n0 85 #[.int .i64 x, .int .i64 (1 - z1)] := (HE8.out.set 0 (.int .i64 x)).set 1 (.int .i64 (1 - z1))
        have HNX : Hid (r = thruL L (x, 1 - z1) (ns.drop (j + 1)) ∧ Below B0 w ((wd.setCell ⟨n0, 0, none⟩ (.int .i64 x)).setCell ⟨n0, 1, none⟩ (.int .i64 (1 - z1))) ∧ Row ((wd.setCell ⟨n0, 0, none⟩ (.int .i64 x)).setCell ⟨n0, 1, none⟩ (.int .i64 (1 - z1))) n0 85 #[.int .i64 x, .int .i64 (1 - z1)] ∧ Row ((wd.setCell ⟨n0, 0, none⟩ (.int .i64 x)).setCell ⟨n0, 1, none⟩ (.int .i64 (1 - z1))) n1 85 #[.int .i64 0, .int .i64 0]) := by
          have hne : n1 ≠ n0 := by have := HN.out; omega
          exact ⟨HW.out, (HB8.out.setCell (p := ⟨n0, 0, none⟩) (by have := HN.out; simp; omega) _).setCell (p := ⟨n0, 1, none⟩) (by have := HN.out; simp; omega) _, rs, (HZ8.out.far (p := ⟨n0, 0, none⟩) hne _).far (p := ⟨n0, 1, none⟩) hne _⟩
        clear rs HB8 HE8 HZ8 HW
        go_wp2_with fail
        go_roundw
        case rel => exact ⟨j + 1, x, 1 - z1, by omega, by go_num, HNX⟩
        case measure => simp [intOf]; omega
    · have HRE : Hid (r = some (e1, e2)) := by
        have h1 := HJ.out.1
        rw [List.drop_eq_nil_of_le (by omega), thruL] at h1
        exact h1
      have f0 := HJ.out.2.2.1.cell 0; have f1 := HJ.out.2.2.1.cell 1
      have z0 := HJ.out.2.2.2.cell 0; have z1 := HJ.out.2.2.2.cell 1; have y0 := HJ.out.2.2.2.frozen 0; have y1 := HJ.out.2.2.2.frozen 1
      simp only [List.getElem?_toArray, List.getElem?_cons_zero, List.getElem?_cons_succ] at f0 f1 z0 z1
      have HRS : Hid (Row ((wr.setCell ⟨n1, 0, none⟩ (.int .i64 e1)).setCell ⟨n1, 1, none⟩ (.int .i64 e2)) n1 85 #[.int .i64 e1, .int .i64 e2]) := (HJ.out.2.2.2.set 0 (.int .i64 e1)).set 1 (.int .i64 e2)
      have HBE := Lib.hid HJ.out.2.1
      clear HJ
      go_wp2_with fail
      refine bodyPost_ret (results_cell_tmp_row rfl _ _ n1 85 #[.int .i64 e1, .int .i64 e2] (0, 0) _ rfl HRS.out Try.underlying85 rfl Try.size85) rfl ?_
      have hn := HN.out
      rw [HRE.out]
      exact ⟨rfl, by rw [← hn.1, ← hn.2.1]; exact (HBE.out.setCell (p := ⟨n1, 0, none⟩) (by show B0 ≤ n1; omega) _).setCell (p := ⟨n1, 1, none⟩) (by show B0 ≤ n1; omega) _⟩

end Go.Proofs.Ytifcgkpannlnnaa
