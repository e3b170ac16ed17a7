/- Contracts: are two layouts alike? The program's, and the document's. -/
import Derived.Test.YthpfhcelmddjlaaAlike2
import Derived.Deep.DeepCutAuto
namespace Go.Proofs.Ythpfhcelmddjlaa
open Go.RowKit Fl
set_option maxRecDepth 100000

theorem RowsAt.drewN {w : World} {D : Nat} {v : Value} {xs : List (List Int)} (h : RowsAt w D v xs) (m : Nat) : RowsAt (w.drewN m) D v xs := h.mono (Nat.le_refl _) fun _ _ => rfl


set_option maxHeartbeats 2000000 in
theorem lists_any (w : World) (D : Nat) (va vb : Value) (xs ys : List (List Int)) (ha : RowsAt w D va xs) (hb : RowsAt w D vb ys) (hrx : ∀ r ∈ xs, r.length ≤ 1000000) (hl : xs.length ≤ 1000000) : Calls Try.prog 47 #[va, vb] w (RetB (decide (xs = ys)) w) := by
  obtain ⟨vs, hva, hvl, hve⟩ := ha
  obtain ⟨us, hub, hul, hue⟩ := hb
  have HA := Lib.hid hva; have HB := Lib.hid hub; have HVL := Lib.hid hvl; have HUL := Lib.hid hul; have HVE := Lib.hid hve; have HUE := Lib.hid hue; have HRX := Lib.hid hrx
  obtain ⟨A, c, rfl, -, -⟩ := hva
  obtain ⟨A', c', rfl, -, -⟩ := hub
  rw [hvl, hul]
  rw [hvl] at HA
  rw [hul] at HB
  clear hvl hul hve hue hrx
  by_cases hne : xs.length = ys.length
  · obtain ⟨n, hn⟩ : ∃ n, n = xs.length := ⟨_, rfl⟩
    rw [← hne, ← hn]
    rw [← hn] at hl
    have HN : Hid (n = xs.length ∧ n = ys.length) := ⟨hn, by omega⟩
    clear hn hne
    go_enter Try.func47, Try.ntmps47
    go_wp2
    go_loopw [5] (fun t wr => ∃ i : Nat, i ≤ n ∧ t = .int .i64 i ∧ Hid (xs.take i = ys.take i) ∧ ∃ m, wr = w.drewN m) (fun t _ => n - (intOf t).toNat)
    case atStart => exact ⟨0, Nat.zero_le _, rfl, rfl, 0, rfl⟩
    case round =>
      obtain ⟨i, hi, rfl, HE, m, rfl⟩ := hrel
      by_cases hlt : i < n
      · have hix : i < xs.length := by have := HN.out; omega
        have hiy : i < ys.length := by have := HN.out; omega
        have HT : Hid (xs[i] = ys[i] → xs.take (i + 1) = ys.take (i + 1)) := take_snoc_eq HE.out hix hiy
        have HD : Hid (xs[i] ≠ ys[i] → xs ≠ ys) := fun h1 h2 => h1 (by subst h2; rfl)
        have hivx : i < vs.length := by have := HVL.out; omega
        have hivy : i < us.length := by have := HUL.out; omega
        obtain ⟨b, o, rfl, _, h1⟩ := HA.out.at (List.getElem?_eq_getElem hivx)
        obtain ⟨b', o', rfl, _, h2⟩ := HB.out.at (List.getElem?_eq_getElem hivy)
        have HEX := Lib.hid (HVE.out i hivx hix)
        have HEY := Lib.hid (HUE.out i hivy hiy)
        have HLX := Lib.hid (HRX.out xs[i] (List.getElem_mem _))
        generalize vs[i] = z1 at *
        generalize us[i] = z2 at *
        generalize xs[i] = x at *
        generalize ys[i] = y at *
        obtain ⟨B1, d1, rfl, -, -⟩ := id HEX.out
        obtain ⟨B2, d2, rfl, -, -⟩ := id HEY.out
        simp only [ivals_length] at *
        obtain ⟨W, hW⟩ : ∃ W, W = w.drewN m := ⟨_, rfl⟩
        have HW := Lib.hid hW
        have g1 : W.cell? ⟨b, o + i, none⟩ = some (.slice B1 x.length d1) := by rw [hW]; exact h1
        have g2 : W.cell? ⟨b', o' + i, none⟩ = some (.slice B2 y.length d2) := by rw [hW]; exact h2
        clear h1 h2
        rw [← hW]
        have HEX2 : Hid (Rd W D (.slice B1 x.length d1) (ivals x)) := by rw [hW]; exact HEX.out.mono (Nat.le_refl _) fun _ _ => rfl
        have HEY2 : Hid (Rd W D (.slice B2 y.length d2) (ivals y)) := by rw [hW]; exact HEY.out.mono (Nat.le_refl _) fun _ _ => rfl
        clear hW
        have HCALL : Hid (∀ p, Calls Try.prog 71 #[.slice B1 x.length d1, .slice B2 y.length d2] (W.drewN p) fun e w' => e = .returned (.bool (decide (x = y))) ∧ ∃ k, w' = (W.drewN p).drewN k) := fun p => ints_any _ D _ _ x y (HEX2.out.mono (Nat.le_refl _) fun _ _ => rfl) (HEY2.out.mono (Nat.le_refl _) fun _ _ => rfl) HLX.out
        by_cases hxy : x = y
        · have HT2 := Lib.hid (HT.out hxy)
          rw [decide_eq_true hxy] at HCALL
          clear HT HD hxy
          go_wp2
          go_quiet ((go_at_call 71; exact Calls.quiet_of (HCALL.out _)))
          go_wp2
          go_roundw
          case rel => exact ⟨i + 1, by omega, by go_num, HT2, m + nq, by rw [HW.out, World.drewN_drewN]⟩
          case measure => simp [intOf]; omega
        · have HD2 := Lib.hid (HD.out hxy)
          rw [decide_eq_false hxy] at HCALL
          clear hxy HT HD
          go_wp2
          go_quiet ((go_at_call 71; exact Calls.quiet_of (HCALL.out _)))
          go_wp2
          go_ret
          exact ⟨ret_bool (by rw [decide_eq_false HD2.out]), m + nq, by rw [HW.out, World.drewN_drewN]⟩

      · have HF : Hid (xs = ys) := by
          have := HE.out
          rw [List.take_of_length_le (by have := HN.out; omega), List.take_of_length_le (by have := HN.out; omega)] at this
          exact this
        go_wp2
        go_ret
        exact ⟨ret_bool (by rw [decide_eq_true HF.out]), m, rfl⟩
  · have HF : Hid (xs ≠ ys) := fun h => hne (by rw [h])
    have hcmp : ((xs.length : Int) == (ys.length : Int)) = false := by simp; omega
    clear hne HA HB HVL HUL HVE HUE
    generalize xs.length = la at *
    generalize ys.length = lb at *
    go_enter Try.func47, Try.ntmps47
    go_wp2
    go_ret
    exact ⟨ret_bool (by rw [decide_eq_false HF.out]), 0, rfl⟩

set_option maxHeartbeats 2000000 in
theorem equalFunc_any (w : World) (D : Nat) (va vb : Value) (xs ys : List (List Int)) (ha : RowsAt w D va xs) (hb : RowsAt w D vb ys) (hrx : ∀ r ∈ xs, r.length ≤ 1000000) (hl : xs.length ≤ 1000000) : Calls Try.prog 69 #[va, vb, .func (.func 70) #[] #[]] w (RetB (decide (xs = ys)) w) := by
  obtain ⟨vs, hva, hvl, hve⟩ := ha
  obtain ⟨us, hub, hul, hue⟩ := hb
  have HA := Lib.hid hva; have HB := Lib.hid hub; have HVL := Lib.hid hvl; have HUL := Lib.hid hul; have HVE := Lib.hid hve; have HUE := Lib.hid hue; have HRX := Lib.hid hrx
  obtain ⟨A, c, rfl, -, -⟩ := hva
  obtain ⟨A', c', rfl, -, -⟩ := hub
  rw [hvl, hul]
  rw [hvl] at HA
  rw [hul] at HB
  clear hvl hul hve hue hrx
  by_cases hne : xs.length = ys.length
  · obtain ⟨n, hn⟩ : ∃ n, n = xs.length := ⟨_, rfl⟩
    rw [← hne, ← hn]
    rw [← hn] at hl
    have HN : Hid (n = xs.length ∧ n = ys.length) := ⟨hn, by omega⟩
    clear hn hne
    go_enter Try.func69, Try.ntmps69
    go_wp2
    go_loopw [17] (fun t wr => ∃ i : Nat, i ≤ n ∧ t = .int .i64 i ∧ Hid (xs.take i = ys.take i) ∧ ∃ m, wr = w.drewN m) (fun t _ => n - (intOf t).toNat)
    case atStart => exact ⟨0, Nat.zero_le _, rfl, rfl, 0, rfl⟩
    case round =>
      obtain ⟨i, hi, rfl, HE, m, rfl⟩ := hrel
      by_cases hlt : i < n
      · have hix : i < xs.length := by have := HN.out; omega
        have hiy : i < ys.length := by have := HN.out; omega
        have HT : Hid (xs[i] = ys[i] → xs.take (i + 1) = ys.take (i + 1)) := take_snoc_eq HE.out hix hiy
        have HD : Hid (xs[i] ≠ ys[i] → xs ≠ ys) := fun h1 h2 => h1 (by subst h2; rfl)
        have hivx : i < vs.length := by have := HVL.out; omega
        have hivy : i < us.length := by have := HUL.out; omega
        obtain ⟨b, o, rfl, _, h1⟩ := HA.out.at (List.getElem?_eq_getElem hivx)
        obtain ⟨b', o', rfl, _, h2⟩ := HB.out.at (List.getElem?_eq_getElem hivy)
        have HEX := Lib.hid (HVE.out i hivx hix)
        have HEY := Lib.hid (HUE.out i hivy hiy)
        have HLX := Lib.hid (HRX.out xs[i] (List.getElem_mem _))
        generalize vs[i] = z1 at *
        generalize us[i] = z2 at *
        generalize xs[i] = x at *
        generalize ys[i] = y at *
        obtain ⟨B1, d1, rfl, -, -⟩ := id HEX.out
        obtain ⟨B2, d2, rfl, -, -⟩ := id HEY.out
        simp only [ivals_length] at *
        by_cases hxy : x = y
        · have HT2 := Lib.hid (HT.out hxy)
          have HDX : Hid (decide (x = y) = true) := decide_eq_true hxy
          clear HT HD hxy
          go_wp2_with fail
          refine (equalInts_any (w.drewN m) D _ _ x y (HEX.out.mono (Nat.le_refl _) fun _ _ => rfl) (HEY.out.mono (Nat.le_refl _) fun _ _ => rfl) HLX.out).mono ?_
          rintro e w2 ⟨rfl, k, rfl⟩
          rw [HDX.out]
          go_wp2_with fail
          go_roundw
          case rel => exact ⟨i + 1, by omega, by go_num, HT2, _, rfl⟩
          case measure => simp [intOf]; omega
        · have HD2 := Lib.hid (HD.out hxy)
          have HDX : Hid (decide (x = y) = false) := decide_eq_false hxy
          clear hxy HT HD
          go_wp2_with fail
          refine (equalInts_any (w.drewN m) D _ _ x y (HEX.out.mono (Nat.le_refl _) fun _ _ => rfl) (HEY.out.mono (Nat.le_refl _) fun _ _ => rfl) HLX.out).mono ?_
          rintro e w2 ⟨rfl, k, rfl⟩
          rw [HDX.out]
          go_wp2_with fail
          go_ret
          exact ⟨ret_bool (by rw [decide_eq_false HD2.out]), _, rfl⟩

      · have HF : Hid (xs = ys) := by
          have := HE.out
          rw [List.take_of_length_le (by have := HN.out; omega), List.take_of_length_le (by have := HN.out; omega)] at this
          exact this
        go_wp2
        go_ret
        exact ⟨ret_bool (by rw [decide_eq_true HF.out]), m, rfl⟩
  · have HF : Hid (xs ≠ ys) := fun h => hne (by rw [h])
    have hcmp : ((xs.length : Int) == (ys.length : Int)) = false := by simp; omega
    clear hne HA HB HVL HUL HVE HUE
    generalize xs.length = la at *
    generalize ys.length = lb at *
    go_enter Try.func69, Try.ntmps69
    go_wp2
    go_ret
    exact ⟨ret_bool (by rw [decide_eq_false HF.out]), 0, rfl⟩

theorem sameRows_any (w : World) (D : Nat) (va vb : Value) (xs ys : List (List Int)) (ha : RowsAt w D va xs) (hb : RowsAt w D vb ys) (hrx : ∀ r ∈ xs, r.length ≤ 1000000) (hl : xs.length ≤ 1000000) : Calls Try.prog 45 #[va, vb] w (RetB (decide (xs = ys)) w) := by
  have HA := Lib.hid ha; have HB := Lib.hid hb; have HR := Lib.hid hrx
  obtain ⟨vs, ⟨A, c, rfl, -, -⟩, -⟩ := ha
  obtain ⟨us, ⟨A', c', rfl, -, -⟩, -⟩ := hb
  clear hrx
  go_enter Try.func45, Try.ntmps45
  go_wp2_with fail
  refine (equalFunc_any w D _ _ xs ys HA.out HB.out HR.out hl).mono ?_
  rintro e w1 ⟨rfl, k, rfl⟩
  go_wp2_with fail
  go_ret
  exact ⟨rfl, k, rfl⟩

end Go.Proofs.Ythpfhcelmddjlaa
