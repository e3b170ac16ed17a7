/- Contracts: the document's one; Has. -/
import Derived.Test.YtifcgkpannlnnaaR2
namespace Go.Proofs.Ytifcgkpannlnnaa
open Go.RowKit Fl
set_option maxRecDepth 100000

theorem endsAt_fst (ss : List (Int × Int × Int)) (n : Int) (i : Nat) : ∀ e ∈ endsAt ss n i, e.1 = (i : Int) := by
  intro e he
  unfold endsAt at he
  rcases List.mem_append.1 he with h | h
  · split at h
    · rw [List.mem_singleton] at h; rw [h]
    · simp at h
  · split at h
    · rw [List.mem_singleton] at h; rw [h]
    · simp at h

theorem endsTo_filter (ss : List (Int × Int × Int)) (n s : Int) : ∀ k, (endsTo ss n k).filter (fun e => decide (e.1 = s)) = if 0 ≤ s ∧ s < (k : Int) then endsAt ss n s.toNat else []
  | 0 => by rw [if_neg (by omega)]; rfl
  | k + 1 => by
    rw [endsTo, List.filter_append, endsTo_filter ss n s k]
    by_cases h : s = (k : Int)
    · subst h
      rw [if_neg (by omega), if_pos (by omega), List.nil_append, Int.toNat_natCast]
      rw [List.filter_eq_self]
      intro e he
      simpa using endsAt_fst ss n k e he
    · have h2 : (endsAt ss n k).filter (fun e => decide (e.1 = s)) = [] := by
        rw [List.filter_eq_nil_iff]
        intro e he
        have := endsAt_fst ss n k e he
        simp; omega
      rw [h2, List.append_nil]
      by_cases h3 : 0 ≤ s ∧ s < (k : Int)
      · rw [if_pos h3, if_pos (by omega)]
      · rw [if_neg h3, if_neg (by omega)]

theorem oneL_eq (ss : List (Int × Int × Int)) (s n : Int) : oneL ss s n = ((endsL ss n).filter (fun e => decide (e.1 = s))).take 1 := by
  unfold endsL oneL endsOfL hasB
  rw [endsTo_filter]
  by_cases h : 0 ≤ s ∧ s < (ss.length : Int)
  · rw [if_pos h, if_pos (by simp; exact h)]
  · rw [if_neg h, if_neg (by simp; omega)]

theorem filter_first {α : Type} (p : α → Bool) : ∀ (l : List α) (i : Nat) (hi : i < l.length), p l[i] = true → (∀ j (hj : j < l.length), j < i → p l[j] = false) → (l.filter p).take 1 = [l[i]]
  | [], i, hi, _, _ => absurd hi (by simp)
  | a :: r, 0, _, h, _ => by
    have h' : p a = true := h
    rw [List.filter_cons_of_pos h']; rfl
  | a :: r, i + 1, hi, h, hb => by
    have ha : p a = false := hb 0 (by simp) (by omega)
    rw [List.filter_cons_of_neg (by simp [ha])]
    have := filter_first p r i (by simpa using hi) (by simpa using h) (fun j hj hji => by have := hb (j + 1) (by simp; omega) (by omega); simpa using this)
    simpa using this

theorem Prs.sub {w : World} {D n c b o : Nat} {xs : List (Int × Int)} (h : Prs w D (.slice (some ⟨b, o, none⟩) n c) xs) (i : Nat) (hi : i < xs.length) : Prs w D (.slice (some ⟨b, o + i * 2, none⟩) 1 (c - i)) [xs[i]] := by
  obtain ⟨A', c', hv, ⟨h0, hc⟩, hx⟩ := h
  injection hv with e1 e2 e3
  subst e1 e3
  obtain ⟨b', o', cur, fr, hA, hb, hh, hcc⟩ := hx (by omega)
  injection hA with hA
  injection hA with q1 q2
  subst q1 q2
  refine ⟨_, _, rfl, ⟨(fun e => by cases e), by simp; omega⟩, fun _ => ⟨b, o + i * 2, cur, fr, rfl, hb, hh, fun j hj => ?_⟩⟩
  have hj0 : j = 0 := by simp at hj; exact hj
  subst hj0
  have := hcc i hi
  simpa using this

set_option maxHeartbeats 2000000 in
theorem refOne_any (w : World) (D : Nat) (v : Value) (L : Lay) (s n : Int) (h : LayV w D v L) (hD : D ≤ w.heap.size) (hL : Fits L) :
    Calls Try.prog 54 #[v, .int .i64 s, .int .i64 n] w (RetEnds (oneL L.secs s n) w) := by
  have hV := h
  obtain ⟨A0, k0, c0, A1, m1, c1, A2, k2, c2, A3, m3, c3, A4, k4, c4, t0, t1, t2, t3, t4, rfl, hm1, hm3, hSe, hPo⟩ := h.open_
  have hb0 := (Below.refl w.heap.size w).alloc (Nat.le_refl _) (.cells #[.slice A0 k0 c0, .slice A1 m1 c1, .slice A2 k2 c2, .slice A3 m3 c3, .slice A4 k4 c4, .int .i64 t0, .int .i64 t1, .int .i64 t2, .int .i64 t3, .int .i64 t4] 36)
  have HB0 := Lib.hid hb0
  have HRL := Lib.hid (Row.new w 36 #[.slice A0 k0 c0, .slice A1 m1 c1, .slice A2 k2 c2, .slice A3 m3 c3, .slice A4 k4 c4, .int .i64 t0, .int .i64 t1, .int .i64 t2, .int .i64 t3, .int .i64 t4])
  have HV := Lib.hid (hV.keep hb0 hD)
  have hD1 : D ≤ (w.alloc (.cells #[.slice A0 k0 c0, .slice A1 m1 c1, .slice A2 k2 c2, .slice A3 m3 c3, .slice A4 k4 c4, .int .i64 t0, .int .i64 t1, .int .i64 t2, .int .i64 t3, .int .i64 t4] 36)).heap.size := by simp; omega
  have HE := Lib.hid (oneL_eq L.secs s n)
  generalize oneL L.secs s n = r at *
  have HL := Lib.hid hL
  have hs := hL.s
  clear hb0 h hV hSe hPo hm1 hm3 hL
  go_enter Try.func54, Try.ntmps54
  go_upto_region 1 with (fail)
  obtain ⟨n0, hn0⟩ : ∃ n, n = w.heap.size := ⟨_, rfl⟩
  rw [← hn0] at HRL HB0 ⊢
  have HN0 := Lib.hid hn0
  clear hn0 hD
  generalize w.alloc (.cells #[.slice A0 k0 c0, .slice A1 m1 c1, .slice A2 k2 c2, .slice A3 m3 c3, .slice A4 k4 c4, .int .i64 t0, .int .i64 t1, .int .i64 t2, .int .i64 t3, .int .i64 t4] 36) = W0 at *
  have p0 := HRL.out.cell 0; have p1 := HRL.out.cell 1; have p2 := HRL.out.cell 2; have p3 := HRL.out.cell 3; have p4 := HRL.out.cell 4; have p5 := HRL.out.cell 5; have p6 := HRL.out.cell 6; have p7 := HRL.out.cell 7; have p8 := HRL.out.cell 8; have p9 := HRL.out.cell 9;
  simp only [List.getElem?_toArray, List.getElem?_cons_zero, List.getElem?_cons_succ] at p0 p1 p2 p3 p4 p5 p6 p7 p8 p9
  go_wp2_with fail
  refine (refEnds_any W0 D _ L n HV.out hD1 HL.out).mono ?_; rintro e w1 ⟨v1, rfl, ho1, hb1⟩
  obtain ⟨A, c, hv1⟩ := own_slice ho1
  subst hv1
  have HP := Lib.hid (Prs.of_own ho1)
  have hcap := own_cap ho1
  have HB1 : Hid (Below n0 w w1) := HB0.out.trans (hb1.mono (by have := HRL.out.lt; omega))
  have hel : (endsL L.secs n).length ≤ 200 := by have := endsTo_le L.secs n L.secs.length; unfold endsL; omega
  clear ho1 hb1 p0 p1 p2 p3 p4 p5 p6 p7 p8 p9
  generalize endsL L.secs n = es at *
  go_wp2_with fail
  go_loop [8] (fun k => ∃ i : Nat, i ≤ es.length ∧ k = .int .i64 i ∧ Hid (∀ j (hj : j < es.length), j < i → decide (es[j].1 = s) = false)) (fun k => es.length - (intOf k).toNat)
  case atStart => exact ⟨0, Nat.zero_le _, rfl, fun j _ hj => absurd hj (by omega)⟩
  case round =>
    obtain ⟨i, hi, rfl, HJ⟩ := hrel
    by_cases hlt : i < es.length
    · obtain ⟨b, o, hA, -, q0, q1⟩ := HP.out.at i hlt
      subst hA
      have hci : ¬ c = i := by omega
      have HSB := Lib.hid (HP.out.sub i hlt)
      have HQ1 : Hid (es[i].1 = s → r = [es[i]]) := fun e => by rw [HE.out]; exact filter_first _ es i hlt (by simpa using e) HJ.out
      have HQ2 : Hid (es[i].1 ≠ s → ∀ j (hj : j < es.length), j < i + 1 → decide (es[j].1 = s) = false) := fun e j hj hji => by
        rcases Nat.lt_or_ge j i with c | c
        · exact HJ.out j hj c
        · obtain rfl : j = i := by omega
          simpa using e
      generalize es[i] = z at *
      obtain ⟨z0, z1⟩ := z
      simp only at q0 q1 HQ1 HQ2
      by_cases he : z0 = s
      · have HF := Lib.hid (HQ1.out he)
        have hes := he.symm
        subst hes
        clear HQ1 HQ2
        go_wp2_with fail
        go_ret
        rw [HF.out]
        exact ⟨_, rfl, HSB.out, by rw [← HN0.out]; exact HB1.out⟩
      · have HF := Lib.hid (HQ2.out he)
        clear HQ1 HQ2
        go_wp2_with fail
        go_round
        case rel => exact ⟨i + 1, by omega, by go_num, HF⟩
        case measure => simp [intOf]; omega
    · have HF : Hid (r = []) := by
        show _ = _
        rw [HE.out]
        have : es.filter (fun e => decide (e.1 = s)) = [] := by
          rw [List.filter_eq_nil_iff]
          intro e he
          obtain ⟨j, hj, rfl⟩ := List.getElem_of_mem he
          rw [HJ.out j hj (by omega)]; simp
        rw [this]; rfl
      go_wp2_with fail
      go_ret
      rw [HF.out]
      exact ⟨_, rfl, Prs.nil _ _, by rw [← HN0.out]; exact HB1.out⟩

set_option maxHeartbeats 1000000 in
theorem refHas_any (w : World) (D : Nat) (v : Value) (xs : List Int) (n : Int) (h : Rd w D v (ivals xs)) (hl : xs.length ≤ 100000) :
    Calls Try.prog 18 #[v, .int .i64 n] w fun e w' => e = .returned (.bool (xs.contains n)) ∧ w = w' := by
  have HR := Lib.hid h
  obtain ⟨A, c, rfl, -, -⟩ := h
  have hvl : (ivals xs).length = xs.length := by simp [ivals]
  rw [hvl] at HR ⊢
  obtain ⟨r, hr⟩ : ∃ r, xs.contains n = r := ⟨_, rfl⟩
  rw [hr]
  have HC := Lib.hid hr
  clear hr hvl
  go_enter Try.func18, Try.ntmps18
  go_wp2_with fail
  go_loop [5] (fun k => ∃ i : Nat, i ≤ xs.length ∧ k = .int .i64 i ∧ Hid (∀ j (hj : j < xs.length), j < i → xs[j] ≠ n)) (fun k => xs.length - (intOf k).toNat)
  case atStart => exact ⟨0, Nat.zero_le _, rfl, fun j _ hj => absurd hj (by omega)⟩
  case round =>
    obtain ⟨i, hi, rfl, HJ⟩ := hrel
    by_cases hlt : i < xs.length
    · obtain ⟨b, o, hA, -, q0⟩ := HR.out.at (i := i) (u := .int .i64 xs[i]) (by simp [ivals, hlt])
      subst hA
      have HQ1 : Hid (xs[i] = n → r = true) := fun e => by rw [← HC.out]; exact List.contains_iff_mem.2 (by rw [← e]; exact List.getElem_mem _)
      have HQ2 : Hid (xs[i] ≠ n → ∀ j (hj : j < xs.length), j < i + 1 → xs[j] ≠ n) := fun e j hj hji => by
        rcases Nat.lt_or_ge j i with c | c
        · exact HJ.out j hj c
        · obtain rfl : j = i := by omega
          exact e
      generalize xs[i] = z at *
      by_cases he : z = n
      · have HF := Lib.hid (HQ1.out he)
        have hes := he.symm
        subst hes
        clear HQ1 HQ2
        go_wp2_with fail
        go_ret
        exact ⟨ret_bool HF.out.symm, rfl⟩
      · have HF := Lib.hid (HQ2.out he)
        clear HQ1 HQ2
        go_wp2_with fail
        go_round
        case rel => exact ⟨i + 1, by omega, by go_num, HF⟩
        case measure => simp [intOf]; omega
    · have HF : Hid (r = false) := by
        show _ = _
        rw [← HC.out]
        cases hc : xs.contains n with
        | false => rfl
        | true =>
          obtain ⟨j, hj, e⟩ := List.getElem_of_mem (List.contains_iff_mem.1 hc)
          exact absurd e (HJ.out j hj (by omega))
      go_wp2_with fail
      go_ret
      exact ⟨ret_bool HF.out.symm, rfl⟩

end Go.Proofs.Ytifcgkpannlnnaa
