/- Of the document: rules 1, 3, 5, 7, 9, 13, 15. -/
import Derived.Test.YtagkgejdammflaaGreatV15
namespace Go.Proofs.YtagkgejdammflaaGreat
open Go.RowKit Fl
set_option maxRecDepth 100000

set_option maxHeartbeats 8000000 in
theorem holds1 (w : World) (v : Value) (L : Lay) (p : Int) (h : LayV w w.heap.size v L) : Calls Tryz.prog 26 #[v, .int .i64 1, .int .i64 p] w (RetL (inB ((L.nodes.length : Int)) 2 40) w) := by
  have HV0 := Lib.hid h
  obtain ⟨vN, vS, vP, vQ, vR, ps, rfl, hd⟩ := h
  obtain ⟨⟨A0, c0, rfl⟩, ⟨A1, c1, rfl⟩, ⟨A2, c2, rfl⟩, ⟨A3, c3, rfl⟩, ⟨A4, c4, rfl⟩⟩ := hd.slices
  have hbn := (Below.refl w.heap.size w).alloc (Nat.le_refl _) (.cells #[.slice A0 L.nodes.length c0, .slice A1 L.secs.length c1, .slice A2 L.parts.length c2, .slice A3 L.points.length c3, .slice A4 L.routes.length c4, .int .i64 L.speed, .int .i64 L.mute, .int .i64 L.wait, .int .i64 L.cancel, .int .i64 L.stay] 33)
  have HBA := Lib.hid hbn
  have HRA := Lib.hid (Row.new w 33 #[.slice A0 L.nodes.length c0, .slice A1 L.secs.length c1, .slice A2 L.parts.length c2, .slice A3 L.points.length c3, .slice A4 L.routes.length c4, .int .i64 L.speed, .int .i64 L.mute, .int .i64 L.wait, .int .i64 L.cancel, .int .i64 L.stay])
  have HVA := Lib.hid (HV0.out.up hbn)
  have HDA := Lib.hid (hd.mono hbn.size (fun _ hp => hbn.cell hp))
  clear hbn hd HV0
  clear HVA HDA
  have HF : Hid (inB ((L.nodes.length : Int)) 2 40 = decide (2 ≤ ((L.nodes.length : Int)) ∧ ((L.nodes.length : Int)) ≤ 40)) := rfl
  rw [HF.out]
  obtain ⟨B, hB⟩ : ∃ B, B = decide (2 ≤ ((L.nodes.length : Int)) ∧ ((L.nodes.length : Int)) ≤ 40) := ⟨_, rfl⟩
  rw [← hB]
  by_cases a : 2 ≤ ((L.nodes.length : Int))
  · by_cases b : ((L.nodes.length : Int)) ≤ 40
    · have HR : Hid (B = true) := by show _ = _; rw [hB]; exact decide_eq_true ⟨a, b⟩
      clear hB HF
      go_enter Tryz.func26, Tryz.ntmps26
      go_upto_region 1 with (fail)
      obtain ⟨n0, hn0⟩ : ∃ n, n = w.heap.size := ⟨_, rfl⟩
      rw [← hn0] at HRA ⊢
      clear hn0
      generalize w.alloc (.cells #[.slice A0 L.nodes.length c0, .slice A1 L.secs.length c1, .slice A2 L.parts.length c2, .slice A3 L.points.length c3, .slice A4 L.routes.length c4, .int .i64 L.speed, .int .i64 L.mute, .int .i64 L.wait, .int .i64 L.cancel, .int .i64 L.stay] 33) = W0 at *
      have l0 : W0.cell? ⟨n0, 0, none⟩ = some (.slice A0 L.nodes.length c0) := by have h := HRA.out.cell 0; simpa using h

      clear HRA
      go_wp2_with fail
      go_ret
      exact ⟨ret_bool HR.out.symm, HBA.out⟩
    · have HR : Hid (B = false) := by show _ = _; rw [hB]; exact decide_eq_false (by omega)
      clear hB HF
      go_enter Tryz.func26, Tryz.ntmps26
      go_upto_region 1 with (fail)
      obtain ⟨n0, hn0⟩ : ∃ n, n = w.heap.size := ⟨_, rfl⟩
      rw [← hn0] at HRA ⊢
      clear hn0
      generalize w.alloc (.cells #[.slice A0 L.nodes.length c0, .slice A1 L.secs.length c1, .slice A2 L.parts.length c2, .slice A3 L.points.length c3, .slice A4 L.routes.length c4, .int .i64 L.speed, .int .i64 L.mute, .int .i64 L.wait, .int .i64 L.cancel, .int .i64 L.stay] 33) = W0 at *
      have l0 : W0.cell? ⟨n0, 0, none⟩ = some (.slice A0 L.nodes.length c0) := by have h := HRA.out.cell 0; simpa using h

      clear HRA
      go_wp2_with fail
      go_ret
      exact ⟨ret_bool HR.out.symm, HBA.out⟩
  · have HR : Hid (B = false) := by show _ = _; rw [hB]; exact decide_eq_false (by omega)
    clear hB HF
    go_enter Tryz.func26, Tryz.ntmps26
    go_upto_region 1 with (fail)
    obtain ⟨n0, hn0⟩ : ∃ n, n = w.heap.size := ⟨_, rfl⟩
    rw [← hn0] at HRA ⊢
    clear hn0
    generalize w.alloc (.cells #[.slice A0 L.nodes.length c0, .slice A1 L.secs.length c1, .slice A2 L.parts.length c2, .slice A3 L.points.length c3, .slice A4 L.routes.length c4, .int .i64 L.speed, .int .i64 L.mute, .int .i64 L.wait, .int .i64 L.cancel, .int .i64 L.stay] 33) = W0 at *
    have l0 : W0.cell? ⟨n0, 0, none⟩ = some (.slice A0 L.nodes.length c0) := by have h := HRA.out.cell 0; simpa using h

    clear HRA
    go_wp2_with fail
    go_ret
    exact ⟨ret_bool HR.out.symm, HBA.out⟩

set_option maxHeartbeats 8000000 in
theorem holds3 (w : World) (v : Value) (L : Lay) (p : Int) (h : LayV w w.heap.size v L) : Calls Tryz.prog 26 #[v, .int .i64 3, .int .i64 p] w (RetL (inB ((L.secs.length : Int)) 1 32) w) := by
  have HV0 := Lib.hid h
  obtain ⟨vN, vS, vP, vQ, vR, ps, rfl, hd⟩ := h
  obtain ⟨⟨A0, c0, rfl⟩, ⟨A1, c1, rfl⟩, ⟨A2, c2, rfl⟩, ⟨A3, c3, rfl⟩, ⟨A4, c4, rfl⟩⟩ := hd.slices
  have hbn := (Below.refl w.heap.size w).alloc (Nat.le_refl _) (.cells #[.slice A0 L.nodes.length c0, .slice A1 L.secs.length c1, .slice A2 L.parts.length c2, .slice A3 L.points.length c3, .slice A4 L.routes.length c4, .int .i64 L.speed, .int .i64 L.mute, .int .i64 L.wait, .int .i64 L.cancel, .int .i64 L.stay] 33)
  have HBA := Lib.hid hbn
  have HRA := Lib.hid (Row.new w 33 #[.slice A0 L.nodes.length c0, .slice A1 L.secs.length c1, .slice A2 L.parts.length c2, .slice A3 L.points.length c3, .slice A4 L.routes.length c4, .int .i64 L.speed, .int .i64 L.mute, .int .i64 L.wait, .int .i64 L.cancel, .int .i64 L.stay])
  have HVA := Lib.hid (HV0.out.up hbn)
  have HDA := Lib.hid (hd.mono hbn.size (fun _ hp => hbn.cell hp))
  clear hbn hd HV0
  clear HVA HDA
  have HF : Hid (inB ((L.secs.length : Int)) 1 32 = decide (1 ≤ ((L.secs.length : Int)) ∧ ((L.secs.length : Int)) ≤ 32)) := rfl
  rw [HF.out]
  obtain ⟨B, hB⟩ : ∃ B, B = decide (1 ≤ ((L.secs.length : Int)) ∧ ((L.secs.length : Int)) ≤ 32) := ⟨_, rfl⟩
  rw [← hB]
  by_cases a : 1 ≤ ((L.secs.length : Int))
  · by_cases b : ((L.secs.length : Int)) ≤ 32
    · have HR : Hid (B = true) := by show _ = _; rw [hB]; exact decide_eq_true ⟨a, b⟩
      clear hB HF
      go_enter Tryz.func26, Tryz.ntmps26
      go_upto_region 1 with (fail)
      obtain ⟨n0, hn0⟩ : ∃ n, n = w.heap.size := ⟨_, rfl⟩
      rw [← hn0] at HRA ⊢
      clear hn0
      generalize w.alloc (.cells #[.slice A0 L.nodes.length c0, .slice A1 L.secs.length c1, .slice A2 L.parts.length c2, .slice A3 L.points.length c3, .slice A4 L.routes.length c4, .int .i64 L.speed, .int .i64 L.mute, .int .i64 L.wait, .int .i64 L.cancel, .int .i64 L.stay] 33) = W0 at *
      have l1 : W0.cell? ⟨n0, 1, none⟩ = some (.slice A1 L.secs.length c1) := by have h := HRA.out.cell 1; simpa using h

      clear HRA
      go_wp2_with fail
      go_ret
      exact ⟨ret_bool HR.out.symm, HBA.out⟩
    · have HR : Hid (B = false) := by show _ = _; rw [hB]; exact decide_eq_false (by omega)
      clear hB HF
      go_enter Tryz.func26, Tryz.ntmps26
      go_upto_region 1 with (fail)
      obtain ⟨n0, hn0⟩ : ∃ n, n = w.heap.size := ⟨_, rfl⟩
      rw [← hn0] at HRA ⊢
      clear hn0
      generalize w.alloc (.cells #[.slice A0 L.nodes.length c0, .slice A1 L.secs.length c1, .slice A2 L.parts.length c2, .slice A3 L.points.length c3, .slice A4 L.routes.length c4, .int .i64 L.speed, .int .i64 L.mute, .int .i64 L.wait, .int .i64 L.cancel, .int .i64 L.stay] 33) = W0 at *
      have l1 : W0.cell? ⟨n0, 1, none⟩ = some (.slice A1 L.secs.length c1) := by have h := HRA.out.cell 1; simpa using h

      clear HRA
      go_wp2_with fail
      go_ret
      exact ⟨ret_bool HR.out.symm, HBA.out⟩
  · have HR : Hid (B = false) := by show _ = _; rw [hB]; exact decide_eq_false (by omega)
    clear hB HF
    go_enter Tryz.func26, Tryz.ntmps26
    go_upto_region 1 with (fail)
    obtain ⟨n0, hn0⟩ : ∃ n, n = w.heap.size := ⟨_, rfl⟩
    rw [← hn0] at HRA ⊢
    clear hn0
    generalize w.alloc (.cells #[.slice A0 L.nodes.length c0, .slice A1 L.secs.length c1, .slice A2 L.parts.length c2, .slice A3 L.points.length c3, .slice A4 L.routes.length c4, .int .i64 L.speed, .int .i64 L.mute, .int .i64 L.wait, .int .i64 L.cancel, .int .i64 L.stay] 33) = W0 at *
    have l1 : W0.cell? ⟨n0, 1, none⟩ = some (.slice A1 L.secs.length c1) := by have h := HRA.out.cell 1; simpa using h

    clear HRA
    go_wp2_with fail
    go_ret
    exact ⟨ret_bool HR.out.symm, HBA.out⟩

set_option maxHeartbeats 8000000 in
theorem holds5 (w : World) (v : Value) (L : Lay) (p : Int) (h : LayV w w.heap.size v L) : Calls Tryz.prog 26 #[v, .int .i64 5, .int .i64 p] w (RetL (inB (L.speed) 1 10000) w) := by
  have HV0 := Lib.hid h
  obtain ⟨vN, vS, vP, vQ, vR, ps, rfl, hd⟩ := h
  obtain ⟨⟨A0, c0, rfl⟩, ⟨A1, c1, rfl⟩, ⟨A2, c2, rfl⟩, ⟨A3, c3, rfl⟩, ⟨A4, c4, rfl⟩⟩ := hd.slices
  have hbn := (Below.refl w.heap.size w).alloc (Nat.le_refl _) (.cells #[.slice A0 L.nodes.length c0, .slice A1 L.secs.length c1, .slice A2 L.parts.length c2, .slice A3 L.points.length c3, .slice A4 L.routes.length c4, .int .i64 L.speed, .int .i64 L.mute, .int .i64 L.wait, .int .i64 L.cancel, .int .i64 L.stay] 33)
  have HBA := Lib.hid hbn
  have HRA := Lib.hid (Row.new w 33 #[.slice A0 L.nodes.length c0, .slice A1 L.secs.length c1, .slice A2 L.parts.length c2, .slice A3 L.points.length c3, .slice A4 L.routes.length c4, .int .i64 L.speed, .int .i64 L.mute, .int .i64 L.wait, .int .i64 L.cancel, .int .i64 L.stay])
  have HVA := Lib.hid (HV0.out.up hbn)
  have HDA := Lib.hid (hd.mono hbn.size (fun _ hp => hbn.cell hp))
  clear hbn hd HV0
  clear HVA HDA
  have HF : Hid (inB (L.speed) 1 10000 = decide (1 ≤ (L.speed) ∧ (L.speed) ≤ 10000)) := rfl
  rw [HF.out]
  obtain ⟨B, hB⟩ : ∃ B, B = decide (1 ≤ (L.speed) ∧ (L.speed) ≤ 10000) := ⟨_, rfl⟩
  rw [← hB]
  by_cases a : 1 ≤ (L.speed)
  · by_cases b : (L.speed) ≤ 10000
    · have HR : Hid (B = true) := by show _ = _; rw [hB]; exact decide_eq_true ⟨a, b⟩
      clear hB HF
      go_enter Tryz.func26, Tryz.ntmps26
      go_upto_region 1 with (fail)
      obtain ⟨n0, hn0⟩ : ∃ n, n = w.heap.size := ⟨_, rfl⟩
      rw [← hn0] at HRA ⊢
      clear hn0
      generalize w.alloc (.cells #[.slice A0 L.nodes.length c0, .slice A1 L.secs.length c1, .slice A2 L.parts.length c2, .slice A3 L.points.length c3, .slice A4 L.routes.length c4, .int .i64 L.speed, .int .i64 L.mute, .int .i64 L.wait, .int .i64 L.cancel, .int .i64 L.stay] 33) = W0 at *
      have l5 : W0.cell? ⟨n0, 5, none⟩ = some (.int .i64 L.speed) := by have h := HRA.out.cell 5; simpa using h

      clear HRA
      go_wp2_with fail
      go_ret
      exact ⟨ret_bool HR.out.symm, HBA.out⟩
    · have HR : Hid (B = false) := by show _ = _; rw [hB]; exact decide_eq_false (by omega)
      clear hB HF
      go_enter Tryz.func26, Tryz.ntmps26
      go_upto_region 1 with (fail)
      obtain ⟨n0, hn0⟩ : ∃ n, n = w.heap.size := ⟨_, rfl⟩
      rw [← hn0] at HRA ⊢
      clear hn0
      generalize w.alloc (.cells #[.slice A0 L.nodes.length c0, .slice A1 L.secs.length c1, .slice A2 L.parts.length c2, .slice A3 L.points.length c3, .slice A4 L.routes.length c4, .int .i64 L.speed, .int .i64 L.mute, .int .i64 L.wait, .int .i64 L.cancel, .int .i64 L.stay] 33) = W0 at *
      have l5 : W0.cell? ⟨n0, 5, none⟩ = some (.int .i64 L.speed) := by have h := HRA.out.cell 5; simpa using h

      clear HRA
      go_wp2_with fail
      go_ret
      exact ⟨ret_bool HR.out.symm, HBA.out⟩
  · have HR : Hid (B = false) := by show _ = _; rw [hB]; exact decide_eq_false (by omega)
    clear hB HF
    go_enter Tryz.func26, Tryz.ntmps26
    go_upto_region 1 with (fail)
    obtain ⟨n0, hn0⟩ : ∃ n, n = w.heap.size := ⟨_, rfl⟩
    rw [← hn0] at HRA ⊢
    clear hn0
    generalize w.alloc (.cells #[.slice A0 L.nodes.length c0, .slice A1 L.secs.length c1, .slice A2 L.parts.length c2, .slice A3 L.points.length c3, .slice A4 L.routes.length c4, .int .i64 L.speed, .int .i64 L.mute, .int .i64 L.wait, .int .i64 L.cancel, .int .i64 L.stay] 33) = W0 at *
    have l5 : W0.cell? ⟨n0, 5, none⟩ = some (.int .i64 L.speed) := by have h := HRA.out.cell 5; simpa using h

    clear HRA
    go_wp2_with fail
    go_ret
    exact ⟨ret_bool HR.out.symm, HBA.out⟩

set_option maxHeartbeats 8000000 in
theorem holds7 (w : World) (v : Value) (L : Lay) (p : Int) (h : LayV w w.heap.size v L) : Calls Tryz.prog 26 #[v, .int .i64 7, .int .i64 p] w (RetL (timesB L) w) := by
  have HV0 := Lib.hid h
  obtain ⟨vN, vS, vP, vQ, vR, ps, rfl, hd⟩ := h
  obtain ⟨⟨A0, c0, rfl⟩, ⟨A1, c1, rfl⟩, ⟨A2, c2, rfl⟩, ⟨A3, c3, rfl⟩, ⟨A4, c4, rfl⟩⟩ := hd.slices
  have hbn := (Below.refl w.heap.size w).alloc (Nat.le_refl _) (.cells #[.slice A0 L.nodes.length c0, .slice A1 L.secs.length c1, .slice A2 L.parts.length c2, .slice A3 L.points.length c3, .slice A4 L.routes.length c4, .int .i64 L.speed, .int .i64 L.mute, .int .i64 L.wait, .int .i64 L.cancel, .int .i64 L.stay] 33)
  have HBA := Lib.hid hbn
  have HRA := Lib.hid (Row.new w 33 #[.slice A0 L.nodes.length c0, .slice A1 L.secs.length c1, .slice A2 L.parts.length c2, .slice A3 L.points.length c3, .slice A4 L.routes.length c4, .int .i64 L.speed, .int .i64 L.mute, .int .i64 L.wait, .int .i64 L.cancel, .int .i64 L.stay])
  have HVA := Lib.hid (HV0.out.up hbn)
  have HDA := Lib.hid (hd.mono hbn.size (fun _ hp => hbn.cell hp))
  clear hbn hd HV0
  clear HVA HDA
  have HF : Hid (timesB L = (inB L.mute 1 1000 && (inB L.wait 1 1000 && (inB L.cancel 1 1000 && inB L.stay 0 1000)))) := rfl
  rw [HF.out]
  obtain ⟨B, hB⟩ : ∃ B, B = (inB L.mute 1 1000 && (inB L.wait 1 1000 && (inB L.cancel 1 1000 && inB L.stay 0 1000))) := ⟨_, rfl⟩
  rw [← hB]
  have HB2 : Hid ((B = true) = ((1 ≤ L.mute ∧ L.mute ≤ 1000) ∧ (1 ≤ L.wait ∧ L.wait ≤ 1000) ∧ (1 ≤ L.cancel ∧ L.cancel ≤ 1000) ∧ 0 ≤ L.stay ∧ L.stay ≤ 1000)) := by
    show _ = _
    rw [hB]
    unfold inB
    simp only [Bool.and_eq_true, decide_eq_true_eq]
  have HBF : Hid (B = false ↔ ¬ B = true) := by show _ ↔ _; simp
  clear hB HF
  by_cases a0 : 1 ≤ L.mute
  · by_cases a1 : L.mute ≤ 1000
    · by_cases a2 : 1 ≤ L.wait
      · by_cases a3 : L.wait ≤ 1000
        · by_cases a4 : 1 ≤ L.cancel
          · by_cases a5 : L.cancel ≤ 1000
            · by_cases a6 : 0 ≤ L.stay
              · by_cases a7 : L.stay ≤ 1000
                · have HR : Hid (B = true) := by show _ = _; rw [HB2.out]; omega
                  go_enter Tryz.func26, Tryz.ntmps26
                  go_upto_region 1 with (fail)
                  obtain ⟨n0, hn0⟩ : ∃ n, n = w.heap.size := ⟨_, rfl⟩
                  rw [← hn0] at HRA ⊢
                  clear hn0
                  generalize w.alloc (.cells #[.slice A0 L.nodes.length c0, .slice A1 L.secs.length c1, .slice A2 L.parts.length c2, .slice A3 L.points.length c3, .slice A4 L.routes.length c4, .int .i64 L.speed, .int .i64 L.mute, .int .i64 L.wait, .int .i64 L.cancel, .int .i64 L.stay] 33) = W0 at *
                  have l6 : W0.cell? ⟨n0, 6, none⟩ = some (.int .i64 L.mute) := by have h := HRA.out.cell 6; simpa using h
                  have l7 : W0.cell? ⟨n0, 7, none⟩ = some (.int .i64 L.wait) := by have h := HRA.out.cell 7; simpa using h
                  have l8 : W0.cell? ⟨n0, 8, none⟩ = some (.int .i64 L.cancel) := by have h := HRA.out.cell 8; simpa using h
                  have l9 : W0.cell? ⟨n0, 9, none⟩ = some (.int .i64 L.stay) := by have h := HRA.out.cell 9; simpa using h

                  clear HRA
                  go_wp2_with fail
                  go_ret
                  exact ⟨ret_bool HR.out.symm, HBA.out⟩
                · have HR : Hid (B = false) := by show _ = _; rw [HBF.out, HB2.out]; omega
                  go_enter Tryz.func26, Tryz.ntmps26
                  go_upto_region 1 with (fail)
                  obtain ⟨n0, hn0⟩ : ∃ n, n = w.heap.size := ⟨_, rfl⟩
                  rw [← hn0] at HRA ⊢
                  clear hn0
                  generalize w.alloc (.cells #[.slice A0 L.nodes.length c0, .slice A1 L.secs.length c1, .slice A2 L.parts.length c2, .slice A3 L.points.length c3, .slice A4 L.routes.length c4, .int .i64 L.speed, .int .i64 L.mute, .int .i64 L.wait, .int .i64 L.cancel, .int .i64 L.stay] 33) = W0 at *
                  have l6 : W0.cell? ⟨n0, 6, none⟩ = some (.int .i64 L.mute) := by have h := HRA.out.cell 6; simpa using h
                  have l7 : W0.cell? ⟨n0, 7, none⟩ = some (.int .i64 L.wait) := by have h := HRA.out.cell 7; simpa using h
                  have l8 : W0.cell? ⟨n0, 8, none⟩ = some (.int .i64 L.cancel) := by have h := HRA.out.cell 8; simpa using h
                  have l9 : W0.cell? ⟨n0, 9, none⟩ = some (.int .i64 L.stay) := by have h := HRA.out.cell 9; simpa using h

                  clear HRA
                  go_wp2_with fail
                  go_ret
                  exact ⟨ret_bool HR.out.symm, HBA.out⟩
              · have HR : Hid (B = false) := by show _ = _; rw [HBF.out, HB2.out]; omega
                go_enter Tryz.func26, Tryz.ntmps26
                go_upto_region 1 with (fail)
                obtain ⟨n0, hn0⟩ : ∃ n, n = w.heap.size := ⟨_, rfl⟩
                rw [← hn0] at HRA ⊢
                clear hn0
                generalize w.alloc (.cells #[.slice A0 L.nodes.length c0, .slice A1 L.secs.length c1, .slice A2 L.parts.length c2, .slice A3 L.points.length c3, .slice A4 L.routes.length c4, .int .i64 L.speed, .int .i64 L.mute, .int .i64 L.wait, .int .i64 L.cancel, .int .i64 L.stay] 33) = W0 at *
                have l6 : W0.cell? ⟨n0, 6, none⟩ = some (.int .i64 L.mute) := by have h := HRA.out.cell 6; simpa using h
                have l7 : W0.cell? ⟨n0, 7, none⟩ = some (.int .i64 L.wait) := by have h := HRA.out.cell 7; simpa using h
                have l8 : W0.cell? ⟨n0, 8, none⟩ = some (.int .i64 L.cancel) := by have h := HRA.out.cell 8; simpa using h
                have l9 : W0.cell? ⟨n0, 9, none⟩ = some (.int .i64 L.stay) := by have h := HRA.out.cell 9; simpa using h

                clear HRA
                go_wp2_with fail
                go_ret
                exact ⟨ret_bool HR.out.symm, HBA.out⟩
            · have HR : Hid (B = false) := by show _ = _; rw [HBF.out, HB2.out]; omega
              go_enter Tryz.func26, Tryz.ntmps26
              go_upto_region 1 with (fail)
              obtain ⟨n0, hn0⟩ : ∃ n, n = w.heap.size := ⟨_, rfl⟩
              rw [← hn0] at HRA ⊢
              clear hn0
              generalize w.alloc (.cells #[.slice A0 L.nodes.length c0, .slice A1 L.secs.length c1, .slice A2 L.parts.length c2, .slice A3 L.points.length c3, .slice A4 L.routes.length c4, .int .i64 L.speed, .int .i64 L.mute, .int .i64 L.wait, .int .i64 L.cancel, .int .i64 L.stay] 33) = W0 at *
              have l6 : W0.cell? ⟨n0, 6, none⟩ = some (.int .i64 L.mute) := by have h := HRA.out.cell 6; simpa using h
              have l7 : W0.cell? ⟨n0, 7, none⟩ = some (.int .i64 L.wait) := by have h := HRA.out.cell 7; simpa using h
              have l8 : W0.cell? ⟨n0, 8, none⟩ = some (.int .i64 L.cancel) := by have h := HRA.out.cell 8; simpa using h
              have l9 : W0.cell? ⟨n0, 9, none⟩ = some (.int .i64 L.stay) := by have h := HRA.out.cell 9; simpa using h

              clear HRA
              go_wp2_with fail
              go_ret
              exact ⟨ret_bool HR.out.symm, HBA.out⟩
          · have HR : Hid (B = false) := by show _ = _; rw [HBF.out, HB2.out]; omega
            go_enter Tryz.func26, Tryz.ntmps26
            go_upto_region 1 with (fail)
            obtain ⟨n0, hn0⟩ : ∃ n, n = w.heap.size := ⟨_, rfl⟩
            rw [← hn0] at HRA ⊢
            clear hn0
            generalize w.alloc (.cells #[.slice A0 L.nodes.length c0, .slice A1 L.secs.length c1, .slice A2 L.parts.length c2, .slice A3 L.points.length c3, .slice A4 L.routes.length c4, .int .i64 L.speed, .int .i64 L.mute, .int .i64 L.wait, .int .i64 L.cancel, .int .i64 L.stay] 33) = W0 at *
            have l6 : W0.cell? ⟨n0, 6, none⟩ = some (.int .i64 L.mute) := by have h := HRA.out.cell 6; simpa using h
            have l7 : W0.cell? ⟨n0, 7, none⟩ = some (.int .i64 L.wait) := by have h := HRA.out.cell 7; simpa using h
            have l8 : W0.cell? ⟨n0, 8, none⟩ = some (.int .i64 L.cancel) := by have h := HRA.out.cell 8; simpa using h
            have l9 : W0.cell? ⟨n0, 9, none⟩ = some (.int .i64 L.stay) := by have h := HRA.out.cell 9; simpa using h

            clear HRA
            go_wp2_with fail
            go_ret
            exact ⟨ret_bool HR.out.symm, HBA.out⟩
        · have HR : Hid (B = false) := by show _ = _; rw [HBF.out, HB2.out]; omega
          go_enter Tryz.func26, Tryz.ntmps26
          go_upto_region 1 with (fail)
          obtain ⟨n0, hn0⟩ : ∃ n, n = w.heap.size := ⟨_, rfl⟩
          rw [← hn0] at HRA ⊢
          clear hn0
          generalize w.alloc (.cells #[.slice A0 L.nodes.length c0, .slice A1 L.secs.length c1, .slice A2 L.parts.length c2, .slice A3 L.points.length c3, .slice A4 L.routes.length c4, .int .i64 L.speed, .int .i64 L.mute, .int .i64 L.wait, .int .i64 L.cancel, .int .i64 L.stay] 33) = W0 at *
          have l6 : W0.cell? ⟨n0, 6, none⟩ = some (.int .i64 L.mute) := by have h := HRA.out.cell 6; simpa using h
          have l7 : W0.cell? ⟨n0, 7, none⟩ = some (.int .i64 L.wait) := by have h := HRA.out.cell 7; simpa using h
          have l8 : W0.cell? ⟨n0, 8, none⟩ = some (.int .i64 L.cancel) := by have h := HRA.out.cell 8; simpa using h
          have l9 : W0.cell? ⟨n0, 9, none⟩ = some (.int .i64 L.stay) := by have h := HRA.out.cell 9; simpa using h

          clear HRA
          go_wp2_with fail
          go_ret
          exact ⟨ret_bool HR.out.symm, HBA.out⟩
      · have HR : Hid (B = false) := by show _ = _; rw [HBF.out, HB2.out]; omega
        go_enter Tryz.func26, Tryz.ntmps26
        go_upto_region 1 with (fail)
        obtain ⟨n0, hn0⟩ : ∃ n, n = w.heap.size := ⟨_, rfl⟩
        rw [← hn0] at HRA ⊢
        clear hn0
        generalize w.alloc (.cells #[.slice A0 L.nodes.length c0, .slice A1 L.secs.length c1, .slice A2 L.parts.length c2, .slice A3 L.points.length c3, .slice A4 L.routes.length c4, .int .i64 L.speed, .int .i64 L.mute, .int .i64 L.wait, .int .i64 L.cancel, .int .i64 L.stay] 33) = W0 at *
        have l6 : W0.cell? ⟨n0, 6, none⟩ = some (.int .i64 L.mute) := by have h := HRA.out.cell 6; simpa using h
        have l7 : W0.cell? ⟨n0, 7, none⟩ = some (.int .i64 L.wait) := by have h := HRA.out.cell 7; simpa using h
        have l8 : W0.cell? ⟨n0, 8, none⟩ = some (.int .i64 L.cancel) := by have h := HRA.out.cell 8; simpa using h
        have l9 : W0.cell? ⟨n0, 9, none⟩ = some (.int .i64 L.stay) := by have h := HRA.out.cell 9; simpa using h

        clear HRA
        go_wp2_with fail
        go_ret
        exact ⟨ret_bool HR.out.symm, HBA.out⟩
    · have HR : Hid (B = false) := by show _ = _; rw [HBF.out, HB2.out]; omega
      go_enter Tryz.func26, Tryz.ntmps26
      go_upto_region 1 with (fail)
      obtain ⟨n0, hn0⟩ : ∃ n, n = w.heap.size := ⟨_, rfl⟩
      rw [← hn0] at HRA ⊢
      clear hn0
      generalize w.alloc (.cells #[.slice A0 L.nodes.length c0, .slice A1 L.secs.length c1, .slice A2 L.parts.length c2, .slice A3 L.points.length c3, .slice A4 L.routes.length c4, .int .i64 L.speed, .int .i64 L.mute, .int .i64 L.wait, .int .i64 L.cancel, .int .i64 L.stay] 33) = W0 at *
      have l6 : W0.cell? ⟨n0, 6, none⟩ = some (.int .i64 L.mute) := by have h := HRA.out.cell 6; simpa using h
      have l7 : W0.cell? ⟨n0, 7, none⟩ = some (.int .i64 L.wait) := by have h := HRA.out.cell 7; simpa using h
      have l8 : W0.cell? ⟨n0, 8, none⟩ = some (.int .i64 L.cancel) := by have h := HRA.out.cell 8; simpa using h
      have l9 : W0.cell? ⟨n0, 9, none⟩ = some (.int .i64 L.stay) := by have h := HRA.out.cell 9; simpa using h

      clear HRA
      go_wp2_with fail
      go_ret
      exact ⟨ret_bool HR.out.symm, HBA.out⟩
  · have HR : Hid (B = false) := by show _ = _; rw [HBF.out, HB2.out]; omega
    go_enter Tryz.func26, Tryz.ntmps26
    go_upto_region 1 with (fail)
    obtain ⟨n0, hn0⟩ : ∃ n, n = w.heap.size := ⟨_, rfl⟩
    rw [← hn0] at HRA ⊢
    clear hn0
    generalize w.alloc (.cells #[.slice A0 L.nodes.length c0, .slice A1 L.secs.length c1, .slice A2 L.parts.length c2, .slice A3 L.points.length c3, .slice A4 L.routes.length c4, .int .i64 L.speed, .int .i64 L.mute, .int .i64 L.wait, .int .i64 L.cancel, .int .i64 L.stay] 33) = W0 at *
    have l6 : W0.cell? ⟨n0, 6, none⟩ = some (.int .i64 L.mute) := by have h := HRA.out.cell 6; simpa using h
    have l7 : W0.cell? ⟨n0, 7, none⟩ = some (.int .i64 L.wait) := by have h := HRA.out.cell 7; simpa using h
    have l8 : W0.cell? ⟨n0, 8, none⟩ = some (.int .i64 L.cancel) := by have h := HRA.out.cell 8; simpa using h
    have l9 : W0.cell? ⟨n0, 9, none⟩ = some (.int .i64 L.stay) := by have h := HRA.out.cell 9; simpa using h

    clear HRA
    go_wp2_with fail
    go_ret
    exact ⟨ret_bool HR.out.symm, HBA.out⟩

set_option maxHeartbeats 8000000 in
theorem holds9 (w : World) (v : Value) (L : Lay) (p : Int) (h : LayV w w.heap.size v L) : Calls Tryz.prog 26 #[v, .int .i64 9, .int .i64 p] w (RetL (decide (((L.points.length : Int)) ≤ 8)) w) := by
  have HV0 := Lib.hid h
  obtain ⟨vN, vS, vP, vQ, vR, ps, rfl, hd⟩ := h
  obtain ⟨⟨A0, c0, rfl⟩, ⟨A1, c1, rfl⟩, ⟨A2, c2, rfl⟩, ⟨A3, c3, rfl⟩, ⟨A4, c4, rfl⟩⟩ := hd.slices
  have hbn := (Below.refl w.heap.size w).alloc (Nat.le_refl _) (.cells #[.slice A0 L.nodes.length c0, .slice A1 L.secs.length c1, .slice A2 L.parts.length c2, .slice A3 L.points.length c3, .slice A4 L.routes.length c4, .int .i64 L.speed, .int .i64 L.mute, .int .i64 L.wait, .int .i64 L.cancel, .int .i64 L.stay] 33)
  have HBA := Lib.hid hbn
  have HRA := Lib.hid (Row.new w 33 #[.slice A0 L.nodes.length c0, .slice A1 L.secs.length c1, .slice A2 L.parts.length c2, .slice A3 L.points.length c3, .slice A4 L.routes.length c4, .int .i64 L.speed, .int .i64 L.mute, .int .i64 L.wait, .int .i64 L.cancel, .int .i64 L.stay])
  have HVA := Lib.hid (HV0.out.up hbn)
  have HDA := Lib.hid (hd.mono hbn.size (fun _ hp => hbn.cell hp))
  clear hbn hd HV0
  clear HVA HDA
  obtain ⟨B, hB⟩ : ∃ B, B = decide (((L.points.length : Int)) ≤ 8) := ⟨_, rfl⟩
  rw [← hB]
  by_cases a : ((L.points.length : Int)) ≤ 8
  · have HR : Hid (B = true) := by show _ = _; rw [hB]; exact decide_eq_true a
    clear hB
    go_enter Tryz.func26, Tryz.ntmps26
    go_upto_region 1 with (fail)
    obtain ⟨n0, hn0⟩ : ∃ n, n = w.heap.size := ⟨_, rfl⟩
    rw [← hn0] at HRA ⊢
    clear hn0
    generalize w.alloc (.cells #[.slice A0 L.nodes.length c0, .slice A1 L.secs.length c1, .slice A2 L.parts.length c2, .slice A3 L.points.length c3, .slice A4 L.routes.length c4, .int .i64 L.speed, .int .i64 L.mute, .int .i64 L.wait, .int .i64 L.cancel, .int .i64 L.stay] 33) = W0 at *
    have l3 : W0.cell? ⟨n0, 3, none⟩ = some (.slice A3 L.points.length c3) := by have h := HRA.out.cell 3; simpa using h

    clear HRA
    go_wp2_with fail
    go_ret
    exact ⟨ret_bool HR.out.symm, HBA.out⟩
  · have HR : Hid (B = false) := by show _ = _; rw [hB]; exact decide_eq_false a
    clear hB
    go_enter Tryz.func26, Tryz.ntmps26
    go_upto_region 1 with (fail)
    obtain ⟨n0, hn0⟩ : ∃ n, n = w.heap.size := ⟨_, rfl⟩
    rw [← hn0] at HRA ⊢
    clear hn0
    generalize w.alloc (.cells #[.slice A0 L.nodes.length c0, .slice A1 L.secs.length c1, .slice A2 L.parts.length c2, .slice A3 L.points.length c3, .slice A4 L.routes.length c4, .int .i64 L.speed, .int .i64 L.mute, .int .i64 L.wait, .int .i64 L.cancel, .int .i64 L.stay] 33) = W0 at *
    have l3 : W0.cell? ⟨n0, 3, none⟩ = some (.slice A3 L.points.length c3) := by have h := HRA.out.cell 3; simpa using h

    clear HRA
    go_wp2_with fail
    go_ret
    exact ⟨ret_bool HR.out.symm, HBA.out⟩

set_option maxHeartbeats 8000000 in
theorem holds13 (w : World) (v : Value) (L : Lay) (p : Int) (h : LayV w w.heap.size v L) : Calls Tryz.prog 26 #[v, .int .i64 13, .int .i64 p] w (RetL (inB ((L.parts.length : Int)) 1 16) w) := by
  have HV0 := Lib.hid h
  obtain ⟨vN, vS, vP, vQ, vR, ps, rfl, hd⟩ := h
  obtain ⟨⟨A0, c0, rfl⟩, ⟨A1, c1, rfl⟩, ⟨A2, c2, rfl⟩, ⟨A3, c3, rfl⟩, ⟨A4, c4, rfl⟩⟩ := hd.slices
  have hbn := (Below.refl w.heap.size w).alloc (Nat.le_refl _) (.cells #[.slice A0 L.nodes.length c0, .slice A1 L.secs.length c1, .slice A2 L.parts.length c2, .slice A3 L.points.length c3, .slice A4 L.routes.length c4, .int .i64 L.speed, .int .i64 L.mute, .int .i64 L.wait, .int .i64 L.cancel, .int .i64 L.stay] 33)
  have HBA := Lib.hid hbn
  have HRA := Lib.hid (Row.new w 33 #[.slice A0 L.nodes.length c0, .slice A1 L.secs.length c1, .slice A2 L.parts.length c2, .slice A3 L.points.length c3, .slice A4 L.routes.length c4, .int .i64 L.speed, .int .i64 L.mute, .int .i64 L.wait, .int .i64 L.cancel, .int .i64 L.stay])
  have HVA := Lib.hid (HV0.out.up hbn)
  have HDA := Lib.hid (hd.mono hbn.size (fun _ hp => hbn.cell hp))
  clear hbn hd HV0
  clear HVA HDA
  have HF : Hid (inB ((L.parts.length : Int)) 1 16 = decide (1 ≤ ((L.parts.length : Int)) ∧ ((L.parts.length : Int)) ≤ 16)) := rfl
  rw [HF.out]
  obtain ⟨B, hB⟩ : ∃ B, B = decide (1 ≤ ((L.parts.length : Int)) ∧ ((L.parts.length : Int)) ≤ 16) := ⟨_, rfl⟩
  rw [← hB]
  by_cases a : 1 ≤ ((L.parts.length : Int))
  · by_cases b : ((L.parts.length : Int)) ≤ 16
    · have HR : Hid (B = true) := by show _ = _; rw [hB]; exact decide_eq_true ⟨a, b⟩
      clear hB HF
      go_enter Tryz.func26, Tryz.ntmps26
      go_upto_region 1 with (fail)
      obtain ⟨n0, hn0⟩ : ∃ n, n = w.heap.size := ⟨_, rfl⟩
      rw [← hn0] at HRA ⊢
      clear hn0
      generalize w.alloc (.cells #[.slice A0 L.nodes.length c0, .slice A1 L.secs.length c1, .slice A2 L.parts.length c2, .slice A3 L.points.length c3, .slice A4 L.routes.length c4, .int .i64 L.speed, .int .i64 L.mute, .int .i64 L.wait, .int .i64 L.cancel, .int .i64 L.stay] 33) = W0 at *
      have l2 : W0.cell? ⟨n0, 2, none⟩ = some (.slice A2 L.parts.length c2) := by have h := HRA.out.cell 2; simpa using h

      clear HRA
      go_wp2_with fail
      go_ret
      exact ⟨ret_bool HR.out.symm, HBA.out⟩
    · have HR : Hid (B = false) := by show _ = _; rw [hB]; exact decide_eq_false (by omega)
      clear hB HF
      go_enter Tryz.func26, Tryz.ntmps26
      go_upto_region 1 with (fail)
      obtain ⟨n0, hn0⟩ : ∃ n, n = w.heap.size := ⟨_, rfl⟩
      rw [← hn0] at HRA ⊢
      clear hn0
      generalize w.alloc (.cells #[.slice A0 L.nodes.length c0, .slice A1 L.secs.length c1, .slice A2 L.parts.length c2, .slice A3 L.points.length c3, .slice A4 L.routes.length c4, .int .i64 L.speed, .int .i64 L.mute, .int .i64 L.wait, .int .i64 L.cancel, .int .i64 L.stay] 33) = W0 at *
      have l2 : W0.cell? ⟨n0, 2, none⟩ = some (.slice A2 L.parts.length c2) := by have h := HRA.out.cell 2; simpa using h

      clear HRA
      go_wp2_with fail
      go_ret
      exact ⟨ret_bool HR.out.symm, HBA.out⟩
  · have HR : Hid (B = false) := by show _ = _; rw [hB]; exact decide_eq_false (by omega)
    clear hB HF
    go_enter Tryz.func26, Tryz.ntmps26
    go_upto_region 1 with (fail)
    obtain ⟨n0, hn0⟩ : ∃ n, n = w.heap.size := ⟨_, rfl⟩
    rw [← hn0] at HRA ⊢
    clear hn0
    generalize w.alloc (.cells #[.slice A0 L.nodes.length c0, .slice A1 L.secs.length c1, .slice A2 L.parts.length c2, .slice A3 L.points.length c3, .slice A4 L.routes.length c4, .int .i64 L.speed, .int .i64 L.mute, .int .i64 L.wait, .int .i64 L.cancel, .int .i64 L.stay] 33) = W0 at *
    have l2 : W0.cell? ⟨n0, 2, none⟩ = some (.slice A2 L.parts.length c2) := by have h := HRA.out.cell 2; simpa using h

    clear HRA
    go_wp2_with fail
    go_ret
    exact ⟨ret_bool HR.out.symm, HBA.out⟩

set_option maxHeartbeats 8000000 in
theorem holds15 (w : World) (v : Value) (L : Lay) (p : Int) (h : LayV w w.heap.size v L) : Calls Tryz.prog 26 #[v, .int .i64 15, .int .i64 p] w (RetL (decide (((L.routes.length : Int)) ≤ 16)) w) := by
  have HV0 := Lib.hid h
  obtain ⟨vN, vS, vP, vQ, vR, ps, rfl, hd⟩ := h
  obtain ⟨⟨A0, c0, rfl⟩, ⟨A1, c1, rfl⟩, ⟨A2, c2, rfl⟩, ⟨A3, c3, rfl⟩, ⟨A4, c4, rfl⟩⟩ := hd.slices
  have hbn := (Below.refl w.heap.size w).alloc (Nat.le_refl _) (.cells #[.slice A0 L.nodes.length c0, .slice A1 L.secs.length c1, .slice A2 L.parts.length c2, .slice A3 L.points.length c3, .slice A4 L.routes.length c4, .int .i64 L.speed, .int .i64 L.mute, .int .i64 L.wait, .int .i64 L.cancel, .int .i64 L.stay] 33)
  have HBA := Lib.hid hbn
  have HRA := Lib.hid (Row.new w 33 #[.slice A0 L.nodes.length c0, .slice A1 L.secs.length c1, .slice A2 L.parts.length c2, .slice A3 L.points.length c3, .slice A4 L.routes.length c4, .int .i64 L.speed, .int .i64 L.mute, .int .i64 L.wait, .int .i64 L.cancel, .int .i64 L.stay])
  have HVA := Lib.hid (HV0.out.up hbn)
  have HDA := Lib.hid (hd.mono hbn.size (fun _ hp => hbn.cell hp))
  clear hbn hd HV0
  clear HVA HDA
  obtain ⟨B, hB⟩ : ∃ B, B = decide (((L.routes.length : Int)) ≤ 16) := ⟨_, rfl⟩
  rw [← hB]
  by_cases a : ((L.routes.length : Int)) ≤ 16
  · have HR : Hid (B = true) := by show _ = _; rw [hB]; exact decide_eq_true a
    clear hB
    go_enter Tryz.func26, Tryz.ntmps26
    go_upto_region 1 with (fail)
    obtain ⟨n0, hn0⟩ : ∃ n, n = w.heap.size := ⟨_, rfl⟩
    rw [← hn0] at HRA ⊢
    clear hn0
    generalize w.alloc (.cells #[.slice A0 L.nodes.length c0, .slice A1 L.secs.length c1, .slice A2 L.parts.length c2, .slice A3 L.points.length c3, .slice A4 L.routes.length c4, .int .i64 L.speed, .int .i64 L.mute, .int .i64 L.wait, .int .i64 L.cancel, .int .i64 L.stay] 33) = W0 at *
    have l4 : W0.cell? ⟨n0, 4, none⟩ = some (.slice A4 L.routes.length c4) := by have h := HRA.out.cell 4; simpa using h

    clear HRA
    go_wp2_with fail
    go_ret
    exact ⟨ret_bool HR.out.symm, HBA.out⟩
  · have HR : Hid (B = false) := by show _ = _; rw [hB]; exact decide_eq_false a
    clear hB
    go_enter Tryz.func26, Tryz.ntmps26
    go_upto_region 1 with (fail)
    obtain ⟨n0, hn0⟩ : ∃ n, n = w.heap.size := ⟨_, rfl⟩
    rw [← hn0] at HRA ⊢
    clear hn0
    generalize w.alloc (.cells #[.slice A0 L.nodes.length c0, .slice A1 L.secs.length c1, .slice A2 L.parts.length c2, .slice A3 L.points.length c3, .slice A4 L.routes.length c4, .int .i64 L.speed, .int .i64 L.mute, .int .i64 L.wait, .int .i64 L.cancel, .int .i64 L.stay] 33) = W0 at *
    have l4 : W0.cell? ⟨n0, 4, none⟩ = some (.slice A4 L.routes.length c4) := by have h := HRA.out.cell 4; simpa using h

    clear HRA
    go_wp2_with fail
    go_ret
    exact ⟨ret_bool HR.out.symm, HBA.out⟩


end Go.Proofs.YtagkgejdammflaaGreat
