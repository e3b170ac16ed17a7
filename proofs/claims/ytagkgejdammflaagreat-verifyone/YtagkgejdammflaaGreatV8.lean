/- The program's rules on points. -/
import Derived.Test.YtagkgejdammflaaGreatV7
namespace Go.Proofs.YtagkgejdammflaaGreat
open Go.RowKit Fl Go.Sort
set_option maxRecDepth 100000

/-- How many of the first points are at a node. -/
def ptsAt (ps : List (Int × Int × Int × Int)) (n : Int) (i : Nat) : Nat := ((ps.take i).map (·.1)).count n
theorem ptsAt_succ {ps : List (Int × Int × Int × Int)} {n : Int} {i : Nat} (h : i < ps.length) : ptsAt ps n (i + 1) = ptsAt ps n i + (if ps[i].1 = n then 1 else 0) := by
  unfold ptsAt
  rw [List.take_succ_eq_append_getElem h, List.map_append, List.count_append]
  simp [List.count_singleton]
theorem ptsAt_le (ps : List (Int × Int × Int × Int)) (n : Int) (i : Nat) : ptsAt ps n i ≤ i := by
  unfold ptsAt
  have h1 : ((ps.take i).map (·.1)).count n ≤ ((ps.take i).map (·.1)).length := List.count_le_length
  have h2 : ((ps.take i).map (·.1)).length = min i ps.length := by simp
  rw [h2] at h1; omega
def itsPointB (L : Lay) (n : Int) : Bool := if (endsL L.secs n).length = 3 then decide (ptsAt L.points n L.points.length = 1) else decide (ptsAt L.points n L.points.length = 0)

set_option maxHeartbeats 4000000 in
theorem hasItsPoint_any (w : World) (D : Nat) (v : Value) (L : Lay) (n : Int) (h : IsTrk w D v L) (hD : D ≤ w.heap.size) (hL : Fits L) : Calls Tryz.prog 44 #[v, .int .i64 n] w (RetL (itsPointB L n) w) := by
  have HK := Lib.hid h
  obtain ⟨t, A0, c0, A1, c1, A2, c2, A3, c3, A4, c4, vg, ps, rfl, hk⟩ := h.slices
  have f3 := hk.row.cell 3
  have f10 := hk.row.cell 10
  simp only [List.getElem?_toArray, List.getElem?_cons_zero, List.getElem?_cons_succ] at f3 f10
  obtain ⟨g, gS, gQ, gP, hvg, -⟩ := hk.gr
  subst hvg
  have htD := hk.lt
  have HEN : Hid (∀ W, Below w.heap.size w W → Calls Tryz.prog 61 #[.pointer (some ⟨g, 0, none⟩), .int .i64 n] W fun e w' => ∃ v', e = .returned v' ∧ w'.ownsRow W.heap.size 60 2 v' (endsL L.secs n).length (ecells (endsL L.secs n)) ∧ Below W.heap.size W w') := fun W hW => ends_any W D _ L n (hk.gr.keep hW hD) (by have := hW.size; omega) hL
  have HPT := Lib.hid hk.data.q
  have hel := endsL_le L hL n
  have hpl := hL.q
  have HIB : Hid (itsPointB L n = if (endsL L.secs n).length = 3 then decide (ptsAt L.points n L.points.length = 1) else decide (ptsAt L.points n L.points.length = 0)) := rfl
  obtain ⟨BB, hBB⟩ : ∃ B, B = itsPointB L n := ⟨_, rfl⟩
  rw [← hBB]
  rw [← hBB] at HIB
  clear hBB
  generalize endsL L.secs n = es at *
  have HTD := Lib.hid htD
  have HDD := Lib.hid hD
  have HC10 := Lib.hid f10
  generalize L.points = pts at *
  obtain ⟨m, hm⟩ : ∃ m, m = pts.length := ⟨_, rfl⟩
  rw [← hm] at f3 hpl HPT HIB
  have HM := Lib.hid hm
  clear hk htD hD hL hm HK
  go_enter Tryz.func44, Tryz.ntmps44
  go_wp2_with fail
  clear f3 f10
  go_loopw [14, 5] (fun k q wr => ∃ j : Nat, j ≤ m ∧ k = .int .i64 j ∧ q = .int .i64 ((ptsAt pts n j : Nat) : Int) ∧ Hid (Below w.heap.size w wr)) (fun k _ _ => m - (intOf k).toNat)
  case atStart => exact ⟨0, Nat.zero_le _, rfl, rfl, Below.refl _ _⟩
  case round =>
    obtain ⟨j, hj, rfl, rfl, HB⟩ := hrel
    by_cases hlt : j < m
    · have hje : j < pts.length := by have := HM.out; omega
      obtain ⟨A', c', hv, hx⟩ := HPT.out
      obtain ⟨b, o, hA, hbl, hc⟩ := hx (by have := HM.out; omega)
      injection hv with e1 _ _
      subst e1
      subst hA
      obtain ⟨q0, q1, q2, q3⟩ := hc j hje
      have hbw : b < w.heap.size := by have := HDD.out; omega
      have r0 := (HB.out.cell (p := ⟨b, o + j * 4, none⟩) hbw).trans q0
      have r1 := (HB.out.cell (p := ⟨b, o + j * 4 + 1, none⟩) hbw).trans q1
      have r2 := (HB.out.cell (p := ⟨b, o + j * 4 + 2, none⟩) hbw).trans q2
      have r3 := (HB.out.cell (p := ⟨b, o + j * 4 + 3, none⟩) hbw).trans q3
      have HS := Lib.hid (ptsAt_succ (n := n) hje)
      have hT := ptsAt_le pts n j
      generalize pts[j] = z at *
      obtain ⟨z0, z1, z2, z3⟩ := z
      simp only at r0 r1 r2 r3 HS
      obtain ⟨T, hTe⟩ : ∃ T, ptsAt pts n j = T := ⟨_, rfl⟩
      rw [hTe] at HS hT ⊢
      have HB2 : Hid (Below w.heap.size w (wr.alloc (.cells #[.int .i64 z0, .int .i64 z1, .int .i64 z2, .int .i64 z3] 41))) := HB.out.alloc HB.out.size _
      clear hc hx q0 q1 q2 q3 hTe hbl hbw HB
      by_cases hz : z0 = n
      · have hz2 : (z0 == n) = true := by simpa using hz
        have HNX : Hid (ptsAt pts n (j + 1) = T + 1) := by show _ = _; rw [HS.out, if_pos hz]
        clear hz HS
        go_wp2_with fail
        go_roundw
        case rel => exact ⟨j + 1, by omega, by go_num, by rw [HNX.out]; go_num, HB2⟩
        case measure => simp [intOf]; omega
      · have hz2 : (z0 == n) = false := by simpa using hz
        have HNX : Hid (ptsAt pts n (j + 1) = T) := by show _ = _; rw [HS.out, if_neg hz]; rfl
        clear hz HS
        go_wp2_with fail
        go_roundw
        case rel => exact ⟨j + 1, by omega, by go_num, by rw [HNX.out], HB2⟩
        case measure => simp [intOf]; omega
    · have HJM : Hid (j = m) := by show _ = _; omega
      have htw : t < w.heap.size := by have := HTD.out; have := HDD.out; omega
      have g10 := (HB.out.cell (p := ⟨t, 10, none⟩) htw).trans HC10.out
      obtain ⟨T, hTe⟩ : ∃ T, ptsAt pts n j = T := ⟨_, rfl⟩
      have HIT : Hid (BB = if es.length = 3 then decide (T = 1) else decide (T = 0)) := by
        show _ = _
        rw [HIB.out, ← HJM.out, hTe]
      rw [hTe]
      have hTl := ptsAt_le pts n j
      rw [hTe] at hTl
      have HBW := Lib.hid HB.out
      clear hTe htw HB
      by_cases h3 : es.length = 3
      · have HI2 : Hid (BB = decide (T = 1)) := by show _ = _; rw [HIT.out, if_pos h3]
        have h33 : ((es.length : Int) == 3) = true := by simp; omega
        have HR : Hid (((T : Int) == 1) = decide (T = 1)) := by show _ = _; rw [Bool.eq_iff_iff]; simp; omega
        have H3 := Lib.hid h3
        clear h3
        go_wp2_with fail
        refine (HEN.out wr HBW.out).mono ?_; rintro e w1 ⟨v1, rfl, ho, hb⟩
        obtain ⟨A, c, hv1⟩ := own_slice ho
        subst hv1
        have HBX := Lib.hid (HBW.out.trans (hb.mono HBW.out.size))
        clear ho hb
        go_wp2_with fail
        go_ret
        exact ⟨ret_bool (by rw [HI2.out]; exact HR.out), HBX.out⟩
      · have HI2 : Hid (BB = decide (T = 0)) := by show _ = _; rw [HIT.out, if_neg h3]
        have h33 : ((es.length : Int) == 3) = false := by simp; omega
        have HR : Hid (((T : Int) == 0) = decide (T = 0)) := by show _ = _; rw [Bool.eq_iff_iff]; simp
        clear h3
        go_wp2_with fail
        refine (HEN.out wr HBW.out).mono ?_; rintro e w1 ⟨v1, rfl, ho, hb⟩
        obtain ⟨A, c, hv1⟩ := own_slice ho
        subst hv1
        have HBX := Lib.hid (HBW.out.trans (hb.mono HBW.out.size))
        clear ho hb
        go_wp2_with fail
        go_ret
        exact ⟨ret_bool (by rw [HI2.out]; exact HR.out), HBX.out⟩

theorem ivals_get' (xs : List Int) (i : Nat) (h : i < xs.length) : (ivals xs)[i]? = some (.int .i64 xs[i]) := by simp [ivals, h]
/-- Rising. -/
def sortL (xs : List Int) : List Int := xs.mergeSort fun x y => decide (x ≤ y)
theorem sortL_len (xs : List Int) : (sortL xs).length = xs.length := List.length_mergeSort xs

theorem sort_own (w : World) (B g cap : Nat) (xs : List Int) (ho : w.ownsRow B 3 1 (.slice (some ⟨g, 0, none⟩) xs.length cap) xs.length (ivals xs)) (hl : xs.length ≤ 100000) :
    Calls Tryz.prog 62 #[.slice (some ⟨g, 0, none⟩) xs.length cap] w fun e w' => e = .returned (.tuple #[]) ∧ w'.ownsRow B 3 1 (.slice (some ⟨g, 0, none⟩) xs.length cap) xs.length (ivals (sortL xs)) ∧ w.grownBy w' (some g) := by
  rcases ho.2 with ⟨e0, _⟩ | ⟨g', cap', cur, e0, hbase, hb, h1, h2, h3, h4⟩
  · cases e0
  · injection e0 with e1 _ e2
    injection e1 with e1
    injection e1 with e1
    subst e1 e2
    have HH := holds_of_blockI (ss := xs) hb (by rw [Nat.mul_one] at h4; exact h4)
    refine (Tryz.slices_Sort_int g 0 cap xs w HH (heap_lt hb) (by omega)).mono ?_
    rintro e w1 ⟨rfl, nn, os, rfl⟩
    exact ⟨rfl, ownsRow_sortedI (sortL_len xs) hbase hb h1 h2 h3, grownBy_sortedI _⟩

/-- Are two lists of numbers the same? -/
theorem equal_own (w : World) (B : Nat) (v v' : Value) (xs ys : List Int) (ho : w.ownsRow B 3 1 v xs.length (ivals xs)) (ho' : w.ownsRow B 3 1 v' ys.length (ivals ys)) (hx : 0 < xs.length) (hl : xs.length ≤ 100000) :
    Calls Tryz.prog 63 #[v, v'] w fun e w' => e = .returned (.bool (decide (xs = ys))) ∧ ∃ q, w' = w.drewN q := by
  have key : ∀ (v : Value) (xs : List Int), w.ownsRow B 3 1 v xs.length (ivals xs) → 0 < xs.length → ∃ g c, v = .slice (some ⟨g, 0, none⟩) xs.length c ∧ ∀ j, j < xs.length → w.cell? ⟨g, 0 + j, none⟩ = some (.int .i64 (xs.getD j 0)) := by
    intro v xs ho hp
    rcases id ho.2 with ⟨_, h0⟩ | ⟨g, cap, cur, rfl, _⟩
    · omega
    · refine ⟨g, cap, rfl, fun j hj => ?_⟩
      rw [Nat.zero_add, ho.cellAt j (by omega), ivals_get' xs j hj]
      simp [List.getD, hj]
  obtain ⟨g, c, rfl, hc⟩ := key v xs ho hx
  by_cases hne : xs.length = ys.length
  · obtain ⟨g', c', rfl, hc'⟩ := key v' ys ho' (by omega)
    refine (Tryz.slices_Equal_int g 0 xs.length c g' 0 ys.length c' xs ys w (Nat.le_refl _) (Nat.le_refl _) (by omega) (by omega) hc hc').mono ?_
    rintro e w' ⟨rfl, hq⟩
    refine ⟨?_, hq⟩
    rw [List.take_length, List.take_length]
    exact ret_bool (by rw [Bool.eq_iff_iff]; simp)
  · obtain ⟨A', c', rfl⟩ := own_slice ho'
    refine (Tryz.slices_Equal_int_lens (some ⟨g, 0, none⟩) A' xs.length c ys.length c' w hne).mono ?_
    rintro e w' ⟨rfl, rfl⟩
    exact ⟨ret_bool (by rw [decide_eq_false (fun e => hne (by rw [e]))]), 0, rfl⟩

def joinsB (L : Lay) (p : Int × Int × Int × Int) : Bool := decide (sortL [p.2.1, p.2.2.1, p.2.2.2] = secsAt L p.1)

set_option maxHeartbeats 4000000 in
theorem joinsItsThree_any (w : World) (D : Nat) (v : Value) (L : Lay) (i : Nat) (h : IsTrk w D v L) (hD : D ≤ w.heap.size) (hL : Fits L) (hi : i < L.points.length) : Calls Tryz.prog 43 #[v, .int .i64 i] w (RetL (joinsB L L.points[i]) w) := by
  have HK := Lib.hid h
  obtain ⟨t, A0, c0, A1, c1, A2, c2, A3, c3, A4, c4, vg, ps, rfl, hk⟩ := h.slices
  have f3 := hk.row.cell 3
  simp only [List.getElem?_toArray, List.getElem?_cons_zero, List.getElem?_cons_succ] at f3
  obtain ⟨A', c', hv, hx⟩ := hk.data.q
  obtain ⟨b, o, hA, hbl, hc⟩ := hx (by omega)
  injection hv with e1 _ _
  subst e1
  subst hA
  obtain ⟨q0, q1, q2, q3⟩ := hc i hi
  have hi2 : (i : Int) < (L.points.length : Int) := by omega
  have hi3 : (0 : Int) ≤ (i : Int) := by omega
  have HJB : Hid (∀ p, joinsB L p = decide (sortL [p.2.1, p.2.2.1, p.2.2.2] = secsAt L p.1)) := fun _ => rfl
  rw [HJB.out]
  generalize L.points[i] = z at *
  obtain ⟨n, s, l, r⟩ := z
  simp only at q0 q1 q2 q3 ⊢
  have HSA : Hid (∀ W, Below w.heap.size w W → Calls Tryz.prog 64 #[.pointer (some ⟨t, 0, none⟩), .int .i64 n] W (RetOwn W.heap.size (secsAt L n) W)) := fun W hW => sectionsAt_any W D _ L n (HK.out.keep hW hD) (by have := hW.size; omega) hL
  have hsl : (secsAt L n).length ≤ 200 := by unfold secsAt; rw [List.length_map]; exact endsL_le L hL n
  have HB2 : Hid (Below w.heap.size w ((w.alloc (.cells #[.int .i64 n, .int .i64 s, .int .i64 l, .int .i64 r] 41)).alloc (.cells #[.int .i64 s, .int .i64 l, .int .i64 r] 3))) := below2 w _ _
  have HRP : Hid (Row ((w.alloc (.cells #[.int .i64 n, .int .i64 s, .int .i64 l, .int .i64 r] 41)).alloc (.cells #[.int .i64 s, .int .i64 l, .int .i64 r] 3)) w.heap.size 41 #[.int .i64 n, .int .i64 s, .int .i64 l, .int .i64 r]) := (Row.new w 41 _).alloc _
  have HON : Hid (((w.alloc (.cells #[.int .i64 n, .int .i64 s, .int .i64 l, .int .i64 r] 41)).alloc (.cells #[.int .i64 s, .int .i64 l, .int .i64 r] 3)).ownsRow w.heap.size 3 1 (.slice (some ⟨w.heap.size + 1, 0, none⟩) 3 3) 3 (ivals [s, l, r])) := by
    have h := World.ownsRow_lit (w.alloc (.cells #[.int .i64 n, .int .i64 s, .int .i64 l, .int .i64 r] 41)) (e := 3) (size := 1) (base := w.heap.size) #[.int .i64 s, .int .i64 l, .int .i64 r] 3 (by simp) (by unfold maxLen; omega) rfl
    rw [World.size_alloc] at h
    exact h
  generalize secsAt L n = ys at *
  clear hk hx hc hD hL HK hbl HJB
  go_enter Tryz.func43, Tryz.ntmps43
  go_upto_region 3 with (fail)
  generalize ((w.alloc (.cells #[.int .i64 n, .int .i64 s, .int .i64 l, .int .i64 r] 41)).alloc (.cells #[.int .i64 s, .int .i64 l, .int .i64 r] 3)) = w1 at *
  clear q0 q1 q2 q3 f3
  go_wp2_with fail
  refine (sort_own w1 w.heap.size (w.heap.size + 1) 3 [s, l, r] HON.out (by simp)).mono ?_; rintro e w2 ⟨rfl, ho2, hg2⟩
  have hr2 : Row w2 w.heap.size 41 #[.int .i64 n, .int .i64 s, .int .i64 l, .int .i64 r] := HRP.out.grown hg2 (by simp)
  have hb2 : Below w.heap.size w w2 := HB2.out.grown hg2 HB2.out.size (by intro k hk; injection hk with hk; omega)
  have z0 := hr2.cell 0
  simp only [List.getElem?_toArray, List.getElem?_cons_zero] at z0
  have HO2 := Lib.hid ho2; have HBB2 := Lib.hid hb2
  clear ho2 hg2 hr2 hb2 HON HRP HB2
  go_wp2_with fail
  refine (HSA.out w2 HBB2.out).mono ?_; rintro e w3 ⟨v3, rfl, ho3, hb3⟩
  have HO3 := Lib.hid (own_base ho3 HBB2.out.size)
  have HO4 := Lib.hid (own_below HO2.out hb3)
  have HB3 := Lib.hid (HBB2.out.trans (hb3.mono HBB2.out.size))
  obtain ⟨A5, c5, hv5⟩ := own_slice ho3
  subst hv5
  have hsl3 : [s, l, r].length = (sortL [s, l, r]).length := (sortL_len _).symm
  clear ho3 hb3 HO2 HBB2 z0 HSA
  go_wp2_with fail
  refine (equal_own w3 w.heap.size _ _ (sortL [s, l, r]) ys (by rw [← hsl3]; exact HO4.out) HO3.out (by rw [← hsl3]; simp) (by rw [← hsl3]; simp)).mono ?_; rintro e w' ⟨rfl, q, rfl⟩
  go_wp2_with fail
  go_ret
  exact ⟨rfl, below_drewN HB3.out q⟩

end Go.Proofs.YtagkgejdammflaaGreat
