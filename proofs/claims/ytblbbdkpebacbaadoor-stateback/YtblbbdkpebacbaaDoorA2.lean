/- Contracts of state: ownerOf, notKnown, stateOf. -/
import Derived.Test.YtblbbdkpebacbaaDoorA1
import Derived.Test.YtblbbdkpebacbaaDoorF1
namespace Go.Proofs.YtblbbdkpebacbaaDoor
open Go.RowKit Fl
set_option maxRecDepth 100000

theorem contains40 (w : World) (D : Nat) (v : Value) (xs : List Int) (n : Int) (h : Rd w D v (ivals xs)) (hl : xs.length ≤ 1000000) :
    Calls Tryd.prog 40 #[v, .int .i64 n] w fun e w' => e = .returned (.bool (xs.contains n)) ∧ w' = w := by
  obtain ⟨A, c, rfl, -, hx⟩ := h
  simp only [ivals, List.length_map] at *
  by_cases h0 : xs.length = 0
  · obtain rfl : xs = [] := List.length_eq_zero_iff.1 h0
    exact Tryd.slices_Contains_int_empty A c n w
  · obtain ⟨b, o, rfl, -, hc⟩ := hx (by omega)
    have := Tryd.slices_Contains_int b o xs.length c xs n w (Nat.le_refl _) (by omega) (fun j hj => by
      refine hc j _ ?_
      rw [List.getElem?_map, List.getElem?_eq_getElem hj]
      simp [List.getD, hj])
    rwa [List.take_length] at this

theorem ownerOf_any (w : World) (D : Nat) (v : Value) (xs : List Int) (p : Int) (h : Rd w D v (ivals xs)) (hl : xs.length ≤ 1000000) :
    Calls Tryd.prog 33 #[.int .i64 p, v] w fun e w' => e = .returned (.int .i64 (if 0 ≤ p ∧ p < (xs.length : Int) then xs.getD p.toNat 0 else -1)) ∧ w' = w := by
  obtain ⟨A, c, rfl, -, hx⟩ := h
  simp only [ivals, List.length_map] at *
  by_cases h1 : 0 ≤ p
  · obtain ⟨i, rfl⟩ := Int.eq_ofNat_of_zero_le h1
    by_cases h2 : i < xs.length
    · obtain ⟨b, o, rfl, -, hc⟩ := hx (by omega)
      have k := hc i (.int .i64 (xs.getD i 0)) (by rw [List.getElem?_map, List.getElem?_eq_getElem h2]; simp [List.getD, h2])
      rw [if_pos ⟨h1, by omega⟩, Int.toNat_natCast]
      clear hc hx
      generalize xs.getD i 0 = z at *
      generalize xs.length = m at *
      have g1 : ¬ (i : Int) < 0 := by omega
      have g2 : ¬ (i : Int) ≥ (m : Int) := by omega
      go_enter Tryd.func33, Tryd.ntmps33
      go_wp2_with fail
      go_ret
      exact ⟨rfl, rfl⟩
    · rw [if_neg (by omega)]
      clear hx
      generalize xs.length = m at *
      have g1 : ¬ (i : Int) < 0 := by omega
      have g2 : (i : Int) ≥ (m : Int) := by omega
      go_enter Tryd.func33, Tryd.ntmps33
      go_wp2_with fail
      go_ret
      exact ⟨rfl, rfl⟩
  · rw [if_neg (by omega)]
    clear hx
    generalize xs.length = m at *
    have g1 : p < 0 := by omega
    go_enter Tryd.func33, Tryd.ntmps33
    go_wp2_with fail
    go_ret
    exact ⟨rfl, rfl⟩

theorem closure48 (w : World) (D : Nat) (a n : Int) (s : Bool) (A : Option Addr) (c : Nat) (sp : List Int) (k : Nat) (bx : Nat) (hx : w.cell? ⟨bx, 0, none⟩ = some (.int .i64 n)) (h : Rd w D (.slice A k c) (ivals sp)) (hD : D ≤ w.heap.size) (hl : sp.length ≤ 1000) :
    Calls Tryd.prog 48 #[.agg #[.int .i64 a, .bool s, .slice A k c], .pointer (some ⟨bx, 0, none⟩)] w fun e w' => e = .returned (.bool (sp.contains n)) ∧ Below w.heap.size w w' := by
  have k0 := cell_alloc (o := .cells #[.int .i64 a, .bool s, .slice A k c] 73) hx
  have hb := (Below.refl w.heap.size w).alloc (Nat.le_refl _) (.cells #[.int .i64 a, .bool s, .slice A k c] 73)
  have HB := Lib.hid hb
  have HS := Lib.hid (contains40 _ D _ sp n (h.below hb hD) (by omega))
  clear hx hb h
  generalize sp.contains n = q at *
  go_enter Tryd.func48, Tryd.ntmps48
  go_wp2_with fail
  refine HS.out.mono ?_; rintro e w' ⟨rfl, rfl⟩
  go_wp2_with fail
  go_ret
  exact ⟨rfl, HB.out⟩

set_option maxHeartbeats 2000000 in
theorem indexS (w : World) (D bx : Nat) (v : Value) (ps : List Vw) (n : Int) (h : Vws w D v ps) (hD : D ≤ w.heap.size) (hl : ps.length ≤ 100) (hs : ∀ p ∈ ps, p.2.2.length ≤ 1000) (hx : w.cell? ⟨bx, 0, none⟩ = some (.int .i64 n)) (hbx : bx < w.heap.size) :
    Calls Tryd.prog 51 #[v, .func (.func 48) #[] #[.pointer (some ⟨bx, 0, none⟩)]] w fun e w' => (∃ r : Int, e = .returned (.int .i64 r) ∧ decide (0 ≤ r) = anyV ps n) ∧ Below w.heap.size w w' := by
  have HP := Lib.hid h
  have HSL := Lib.hid hs
  obtain ⟨A, c, vs, rfl, -⟩ := h
  have HX := Lib.hid hx
  clear hx hs
  obtain ⟨r, hr⟩ : ∃ r, anyV ps n = r := ⟨_, rfl⟩
  rw [hr]
  have HR := Lib.hid hr
  clear hr
  obtain ⟨m, hm⟩ : ∃ m, ps.length = m := ⟨_, rfl⟩
  rw [hm] at HP hl ⊢
  have HM := Lib.hid hm
  clear hm
  obtain ⟨B0, hB0⟩ : ∃ n, n = w.heap.size := ⟨_, rfl⟩
  rw [← hB0] at hD hbx
  have HB0 := Lib.hid hB0
  clear hB0
  have HDD := Lib.hid hD
  go_enter Tryd.func51, Tryd.ntmps51
  go_wp2_with fail
  go_loopw [8] (fun k wr => ∃ i : Nat, i ≤ m ∧ k = .int .i64 i ∧ Hid ((∀ j (hj : j < ps.length), j < i → ps[j].2.2.contains n = false) ∧ Below B0 w wr)) (fun k _ => m - (intOf k).toNat)
  case atStart => exact ⟨0, Nat.zero_le _, rfl, fun j _ hj => absurd hj (by omega), Below.refl _ _⟩
  case round =>
    obtain ⟨i, hi, rfl, HJ⟩ := hrel
    by_cases hlt : i < m
    · have him : i < ps.length := by have := HM.out; omega
      obtain ⟨b, o, A1, c1, rfl, hb, c0, c2, c3, h4⟩ := HP.out.at i him
      have lift : ∀ p : Addr, p.block < B0 → wr.cell? p = w.cell? p := fun p hp => HJ.out.2.cell (p := p) hp
      have e0 := (lift ⟨b, o + i * 3, none⟩ (by show b < B0; omega)).trans c0
      have e1 := (lift ⟨b, o + i * 3 + 1, none⟩ (by show b < B0; omega)).trans c2
      have e2 := (lift ⟨b, o + i * 3 + 2, none⟩ (by show b < B0; omega)).trans c3
      have HXR : Hid (wr.cell? ⟨bx, 0, none⟩ = some (.int .i64 n)) := (lift ⟨bx, 0, none⟩ hbx).trans HX.out
      have HS1 : Hid (Rd wr D (.slice A1 ps[i].2.2.length c1) (ivals ps[i].2.2)) := h4.below HJ.out.2 HDD.out
      have HS2 : Hid (ps[i].2.2.length ≤ 1000) := HSL.out _ (List.getElem_mem him)
      have HQ1 : Hid (ps[i].2.2.contains n = true → r = true) := fun e => by
        rw [← HR.out]; unfold anyV; exact List.any_eq_true.2 ⟨_, List.getElem_mem him, e⟩
      have HQ2 : Hid (ps[i].2.2.contains n = false → ∀ j (hj : j < ps.length), j < i + 1 → ps[j].2.2.contains n = false) := fun e j hj hji => by
        rcases Nat.lt_or_ge j i with c | c
        · exact HJ.out.1 j hj c
        · obtain rfl : j = i := by omega
          exact e
      clear lift c0 c2 c3 h4
      generalize ps[i] = z at *
      obtain ⟨z0, z1, z2⟩ := z
      simp only at e0 e1 e2 HQ1 HQ2 HS1 HS2
      obtain ⟨zl, hzl⟩ : ∃ n, z2.length = n := ⟨_, rfl⟩
      rw [hzl] at e2 HS1
      clear hzl
      have HW : Hid (D ≤ wr.heap.size) := by show _ ≤ _; have := HJ.out.2.size; have := HB0.out; have := HDD.out; omega
      go_wp2_with fail
      refine (closure48 wr D z0 n z1 A1 c1 z2 zl bx HXR.out HS1.out HW.out HS2.out).mono ?_; rintro e w1 ⟨rfl, hb1⟩
      have HB1 : Hid (Below B0 w w1) := HJ.out.2.trans (hb1.mono (by have := HJ.out.2.size; have := HB0.out; omega))
      clear hb1 e0 e1 e2 HS1 HXR
      cases hz : z2.contains n with
      | true =>
        have HF := Lib.hid (HQ1.out hz)
        clear hz
        go_wp2_with fail
        go_ret
        exact ⟨⟨_, rfl, by rw [HF.out]; simp⟩, by rw [← HB0.out]; exact HB1.out⟩
      | false =>
        have HN2 := Lib.hid (HQ2.out hz)
        clear hz
        go_wp2_with fail
        go_roundw
        case rel => exact ⟨i + 1, by omega, by go_num, HN2.out, HB1.out⟩
        case measure => simp [intOf]; omega
    · have HF : Hid (r = false) := by
        show _ = _
        rw [← HR.out]
        unfold anyV
        rw [List.any_eq_false]
        intro x hx
        obtain ⟨j, hj, rfl⟩ := List.getElem_of_mem hx
        rw [HJ.out.1 j hj (by have := HM.out; omega)]; simp
      go_wp2_with fail
      go_ret
      exact ⟨⟨_, rfl, by rw [HF.out]; simp⟩, by rw [← HB0.out]; exact HJ.out.2⟩

theorem containsF (w : World) (D bx : Nat) (v : Value) (ps : List Vw) (n : Int) (h : Vws w D v ps) (hD : D ≤ w.heap.size) (hl : ps.length ≤ 100) (hs : ∀ p ∈ ps, p.2.2.length ≤ 1000) (hx : w.cell? ⟨bx, 0, none⟩ = some (.int .i64 n)) (hbx : bx < w.heap.size) :
    Calls Tryd.prog 47 #[v, .func (.func 48) #[] #[.pointer (some ⟨bx, 0, none⟩)]] w fun e w' => e = .returned (.bool (anyV ps n)) ∧ Below w.heap.size w w' := by
  have hi := indexS w D bx v ps n h hD hl hs hx hbx
  obtain ⟨q, hq⟩ : ∃ q, anyV ps n = q := ⟨_, rfl⟩
  rw [hq] at hi ⊢
  have HI := Lib.hid hi
  obtain ⟨A, c, vs, rfl, -⟩ := h
  clear hx hi hq
  go_enter Tryd.func47, Tryd.ntmps47
  go_wp2_with fail
  refine HI.out.mono ?_; rintro e w' ⟨⟨r, rfl, hr⟩, hb⟩
  have HB := Lib.hid hb
  subst hr
  clear hb HI
  by_cases h0 : 0 ≤ r
  · have e1 : decide (0 ≤ r) = true := by simpa using h0
    go_wp2_with fail
    go_ret
    exact ⟨by first | rfl | simp [h0], HB.out⟩
  · have e1 : decide (0 ≤ r) = false := by simpa using h0
    go_wp2_with fail
    go_ret
    exact ⟨by first | rfl | simp [h0], HB.out⟩

theorem notKnown_any (w : World) (D : Nat) (v : Value) (ps : List Vw) (n : Int) (h : Vws w D v ps) (hD : D ≤ w.heap.size) (hl : ps.length ≤ 100) (hs : ∀ p ∈ ps, p.2.2.length ≤ 1000) :
    Calls Tryd.prog 38 #[.int .i64 n, v] w fun e w' => e = .returned (.int .u8 ((if anyV ps n = true then 2 else 3 : Nat) : Int)) ∧ Below w.heap.size w w' := by
  have hb1 := (Below.refl w.heap.size w).alloc (Nat.le_refl _) (.cells #[.int .i64 n] 3)
  have HV := Lib.hid (h.below hb1 hD)
  have HX : Hid ((w.alloc (.cells #[.int .i64 n] 3)).cell? ⟨w.heap.size, 0, none⟩ = some (.int .i64 n)) := (Row.new w 3 #[.int .i64 n]).cell 0
  have HC := Lib.hid (containsF (w.alloc (.cells #[.int .i64 n] 3)) D w.heap.size v ps n HV.out (by simp; omega) hl hs HX.out (by simp))
  have HB := Lib.hid hb1
  obtain ⟨A, c, vs, rfl, -⟩ := h
  clear hb1 HV HX hs
  generalize anyV ps n = q at *
  cases q <;>
  · go_enter Tryd.func38, Tryd.ntmps38
    go_wp2_with fail
    refine HC.out.mono ?_; rintro e w' ⟨rfl, hb⟩
    have HE := Lib.hid (HB.out.trans (hb.mono HB.out.size))
    clear hb HC HB
    go_wp2_with fail
    go_ret
    exact ⟨rfl, HE.out⟩
end Go.Proofs.YtblbbdkpebacbaaDoor
