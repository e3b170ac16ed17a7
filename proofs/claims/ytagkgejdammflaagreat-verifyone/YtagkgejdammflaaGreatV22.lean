/- Of the document: the second part of rule 13. -/
import Derived.Test.YtagkgejdammflaaGreatV18
namespace Go.Proofs.YtagkgejdammflaaGreat
open Go.RowKit Fl
set_option maxRecDepth 100000

set_option maxHeartbeats 8000000 in
theorem part13 (w : World) (v : Value) (L : Lay) (p : Nat) (h : LayV w w.heap.size v L) (hp : p < L.parts.length) (hr : ∀ r ∈ L.parts, r.length ≤ 1000) : Calls Tryz.prog 27 #[v, .int .i64 13, .int .i64 p] w (RetL (ofSecsB L L.parts[p]) w) := by
  have HV0 := Lib.hid h
  obtain ⟨vN, vS, vP, vQ, vR, ps, rfl, hd⟩ := h
  obtain ⟨⟨A0, c0, rfl⟩, ⟨A1, c1, rfl⟩, ⟨A2, c2, rfl⟩, ⟨A3, c3, rfl⟩, ⟨A4, c4, rfl⟩⟩ := hd.slices
  have hbn := (Below.refl w.heap.size w).alloc (Nat.le_refl _) (.cells #[.slice A0 L.nodes.length c0, .slice A1 L.secs.length c1, .slice A2 L.parts.length c2, .slice A3 L.points.length c3, .slice A4 L.routes.length c4, .int .i64 L.speed, .int .i64 L.mute, .int .i64 L.wait, .int .i64 L.cancel, .int .i64 L.stay] 33)
  have HBA := Lib.hid hbn
  have HRA := Lib.hid (Row.new w 33 #[.slice A0 L.nodes.length c0, .slice A1 L.secs.length c1, .slice A2 L.parts.length c2, .slice A3 L.points.length c3, .slice A4 L.routes.length c4, .int .i64 L.speed, .int .i64 L.mute, .int .i64 L.wait, .int .i64 L.cancel, .int .i64 L.stay])
  have HVA := Lib.hid (HV0.out.up hbn)
  have HDA := Lib.hid (hd.mono hbn.size (fun _ hp => hbn.cell hp))
  clear hbn hd HV0
  have hrl := hr _ (List.getElem_mem hp)
  obtain ⟨pb, po, Ar, cr, hA, hpbl, q0, hrd⟩ := row_at HDA.out.p p hp
  subst hA
  have HRD := Lib.hid hrd
  have HOB : Hid (ofSecsB L L.parts[p] = (decide (0 < L.parts[p].length) && !L.parts[p].any (missB L))) := rfl
  obtain ⟨B, hB⟩ : ∃ B, ofSecsB L L.parts[p] = B := ⟨_, rfl⟩
  rw [hB]
  rw [hB] at HOB
  have hpI : (p : Int) < (L.parts.length : Int) := by omega
  have hp0 : (0 : Int) ≤ (p : Int) := by omega
  have HMB : Hid (∀ s, missB L s = !decide (0 ≤ s ∧ s ≤ (L.secs.length : Int) - 1)) := fun _ => rfl
  clear hB HVA HDA hrd hpbl hr
  generalize L.parts[p] = r at *
  obtain ⟨n, hn⟩ : ∃ n, n = r.length := ⟨_, rfl⟩
  rw [← hn] at q0 hrl HRD
  have HN := Lib.hid hn
  clear hn
  go_enter Tryz.func27, Tryz.ntmps27
  go_upto_region 1 with (fail)
  obtain ⟨n0, hn0⟩ : ∃ n, n = w.heap.size := ⟨_, rfl⟩
  rw [← hn0] at HRA ⊢
  clear hn0
  generalize w.alloc (.cells #[.slice A0 L.nodes.length c0, .slice A1 L.secs.length c1, .slice (some ⟨pb, po, none⟩) L.parts.length c2, .slice A3 L.points.length c3, .slice A4 L.routes.length c4, .int .i64 L.speed, .int .i64 L.mute, .int .i64 L.wait, .int .i64 L.cancel, .int .i64 L.stay] 33) = W0 at *
  have l1 : W0.cell? ⟨n0, 1, none⟩ = some (.slice A1 L.secs.length c1) := by have h := HRA.out.cell 1; simpa using h
  have l2 : W0.cell? ⟨n0, 2, none⟩ = some (.slice (some ⟨pb, po, none⟩) L.parts.length c2) := by have h := HRA.out.cell 2; simpa using h
  clear HRA
  go_wp2_with fail
  go_loopw [9] (fun t wr => ∃ j : Nat, j ≤ n ∧ t = .int .i64 j ∧ Hid (∀ j' (h1 : j' < r.length), j' < j → missB L r[j'] = false) ∧ ∃ m, wr = W0.drewN m) (fun t _ => n - (intOf t).toNat)
  case atStart => exact ⟨0, Nat.zero_le _, rfl, fun j' _ h => by omega, 0, rfl⟩
  case round =>
    obtain ⟨j, hj, rfl, HJ, dn, rfl⟩ := hrel
    by_cases hlt : j < n
    · have hjr : j < r.length := by have := HN.out; omega
      obtain ⟨rb, ro, hAr, hrb, u0⟩ := HRD.out.at (i := j) (u := .int .i64 r[j]) (by simp [ivals, hjr])
      subst hAr
      have HB1 : Hid (missB L r[j] = true → B = false) := fun e => by
        rw [HOB.out]
        have : r.any (missB L) = true := List.any_eq_true.2 ⟨r[j], List.getElem_mem _, e⟩
        rw [this]; simp
      have HB2 : Hid (missB L r[j] = false → ∀ j' (h1 : j' < r.length), j' < j + 1 → missB L r[j'] = false) := fun e j' h1 h2 => by
        rcases Nat.lt_or_ge j' j with c | c
        · exact HJ.out j' h1 c
        · obtain rfl : j' = j := by omega
          exact e
      have HMS := Lib.hid (HMB.out r[j])
      generalize r[j] = s at *
      clear hjr hrb
      by_cases s0 : s < 0
      · have HFF := Lib.hid (HB1.out (by rw [HMS.out, decide_eq_false (by omega)]; rfl))
        clear HMS HB1 HB2
        go_upto_region 7 with (fail)
        go_quiet (fail)
        go_wp2_with fail
        go_ret
        first | exact ⟨ret_bool HFF.out.symm, below_drewN HBA.out _⟩ | exact ⟨ret_bool HFF.out.symm, below_drewN (below_drewN HBA.out _) _⟩
      · by_cases s1 : s < (L.secs.length : Int)
        · have HFF := Lib.hid (HB2.out (by rw [HMS.out, decide_eq_true ⟨by omega, by omega⟩]; rfl))
          have s2 : ¬ (L.secs.length : Int) ≤ s := by omega
          clear HMS HB1 HB2
          go_upto_region 7 with (fail)
          go_quiet (fail)
          go_wp2_with fail
          go_roundw
          case rel => exact ⟨j + 1, by omega, by go_num, HFF, _, rfl⟩
          case measure => simp [intOf]; omega
        · have HFF := Lib.hid (HB1.out (by rw [HMS.out, decide_eq_false (by omega)]; rfl))
          have s2 : (L.secs.length : Int) ≤ s := by omega
          clear HMS HB1 HB2
          go_upto_region 7 with (fail)
          go_quiet (fail)
          go_wp2_with fail
          go_ret
          first | exact ⟨ret_bool HFF.out.symm, below_drewN HBA.out _⟩ | exact ⟨ret_bool HFF.out.symm, below_drewN (below_drewN HBA.out _) _⟩
    · have hjn : j = n := by omega
      have HFF : Hid (B = decide (0 < n)) := by
        show _ = _
        rw [HOB.out]
        have hany : r.any (missB L) = false := by
          rw [List.any_eq_false]
          intro x hx
          obtain ⟨j', h1, rfl⟩ := List.getElem_of_mem hx
          rw [HJ.out j' h1 (by have := HN.out; omega)]
          decide
        rw [hany, ← HN.out]; simp
      by_cases hn0 : 0 < n
      · have HG : Hid (B = true) := by show _ = _; rw [HFF.out, decide_eq_true hn0]
        have hnI : (0 : Int) < (n : Int) := by omega
        clear hjn HFF
        go_wp2_with fail
        go_ret
        exact ⟨ret_bool HG.out.symm, below_drewN HBA.out _⟩
      · have HG : Hid (B = false) := by show _ = _; rw [HFF.out, decide_eq_false hn0]
        have hnI : ¬ (0 : Int) < (n : Int) := by omega
        clear hjn HFF
        go_wp2_with fail
        go_ret
        exact ⟨ret_bool HG.out.symm, below_drewN HBA.out _⟩


end Go.Proofs.YtagkgejdammflaaGreat
