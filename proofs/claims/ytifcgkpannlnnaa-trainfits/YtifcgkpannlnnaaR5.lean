/- Contracts: the document's Around. -/
import Derived.Test.YtifcgkpannlnnaaR4
namespace Go.Proofs.Ytifcgkpannlnnaa
open Go.RowKit Fl
set_option maxRecDepth 100000

set_option maxHeartbeats 8000000 in
theorem refAround_any (w : World) (D : Nat) (v : Value) (L : Lay) (s k : Int) (h : LayV w D v L) (hD : D ≤ w.heap.size) (hL : Fits L) :
    Calls Try.prog 38 #[v, .agg #[.int .i64 s, .int .i64 k]] w (RetEnds (aroundL L (s, k)) w) := by
  have hV := h
  obtain ⟨A0, k0, c0, A1, m1, c1, A2, k2, c2, A3, m3, c3, A4, k4, c4, t0, t1, t2, t3, t4, rfl, hm1, hm3, hSe, hPo⟩ := h.open_
  have HB0 : Hid (Below w.heap.size w ((w.alloc (.cells #[.slice A0 k0 c0, .slice A1 m1 c1, .slice A2 k2 c2, .slice A3 m3 c3, .slice A4 k4 c4, .int .i64 t0, .int .i64 t1, .int .i64 t2, .int .i64 t3, .int .i64 t4] 36)).alloc (.cells #[.int .i64 s, .int .i64 k] 85))) := below2 w _ _
  have HRL0 := Lib.hid ((Row.new w 36 #[.slice A0 k0 c0, .slice A1 m1 c1, .slice A2 k2 c2, .slice A3 m3 c3, .slice A4 k4 c4, .int .i64 t0, .int .i64 t1, .int .i64 t2, .int .i64 t3, .int .i64 t4]).alloc (.cells #[.int .i64 s, .int .i64 k] 85))
  have hr1 := Row.new (w.alloc (.cells #[.slice A0 k0 c0, .slice A1 m1 c1, .slice A2 k2 c2, .slice A3 m3 c3, .slice A4 k4 c4, .int .i64 t0, .int .i64 t1, .int .i64 t2, .int .i64 t3, .int .i64 t4] 36)) 85 #[.int .i64 s, .int .i64 k]
  rw [World.size_alloc] at hr1
  have HRE0 := Lib.hid hr1
  have HV0 := Lib.hid (hV.keep HB0.out hD)
  have hD0 : D ≤ ((w.alloc (.cells #[.slice A0 k0 c0, .slice A1 m1 c1, .slice A2 k2 c2, .slice A3 m3 c3, .slice A4 k4 c4, .int .i64 t0, .int .i64 t1, .int .i64 t2, .int .i64 t3, .int .i64 t4] 36)).alloc (.cells #[.int .i64 s, .int .i64 k] 85)).heap.size := by simp; omega
  have HM3 := Lib.hid hm3
  have hq := hL.q; have hs := hL.s
  rw [hm3] at hq
  have HL := Lib.hid hL
  obtain ⟨r, hr⟩ : ∃ r, aroundL L (s, k) = r := ⟨_, rfl⟩
  rw [hr]
  have HE : Hid (r = match nodeL L.secs (s, k) with
    | none => []
    | some n => if 0 ≤ pointL L.points n then
        (let p := L.points.getD (pointL L.points n).toNat (0, 0, 0, 0)
         throughL L.secs p s [p.2.2.1, p.2.2.2])
      else acrossL (endsL L.secs n) (s, k)) := by rw [← hr]; rfl
  clear hr hr1 h hV hSe hPo hm1 hm3 hL
  obtain ⟨i4, hi4, hz40, hz41, hz42⟩ := info_parts Try.info85
  go_enter Try.func38, Try.ntmps38
  go_upto_region 1 with (fail)
  obtain ⟨n0, hn0⟩ : ∃ n, n = w.heap.size := ⟨_, rfl⟩
  obtain ⟨n1, hn1⟩ : ∃ n, n = n0 + 1 := ⟨_, rfl⟩
  rw [← hn0] at HRL0 HB0 HRE0 ⊢
  rw [← hn1] at HRE0 ⊢
  have HN0 : Hid (n0 = w.heap.size ∧ n1 = n0 + 1) := ⟨hn0, hn1⟩
  clear hn0 hn1 hD
  generalize (w.alloc (.cells #[.slice A0 k0 c0, .slice A1 m1 c1, .slice A2 k2 c2, .slice A3 m3 c3, .slice A4 k4 c4, .int .i64 t0, .int .i64 t1, .int .i64 t2, .int .i64 t3, .int .i64 t4] 36)).alloc (.cells #[.int .i64 s, .int .i64 k] 85) = W0 at *
  have p0 := HRL0.out.cell 0; have p1 := HRL0.out.cell 1; have p2 := HRL0.out.cell 2; have p3 := HRL0.out.cell 3; have p4 := HRL0.out.cell 4; have p5 := HRL0.out.cell 5; have p6 := HRL0.out.cell 6; have p7 := HRL0.out.cell 7; have p8 := HRL0.out.cell 8; have p9 := HRL0.out.cell 9
  simp only [List.getElem?_toArray, List.getElem?_cons_zero, List.getElem?_cons_succ] at p0 p1 p2 p3 p4 p5 p6 p7 p8 p9
  have e0 := HRE0.out.cell 0; have e1 := HRE0.out.cell 1
  simp only [List.getElem?_toArray, List.getElem?_cons_zero, List.getElem?_cons_succ] at e0 e1
  go_wp2_with fail
  refine (refNode_any W0 D _ L s k HV0.out hD0 HL.out).mono ?_; rintro e w1 ⟨rfl, hb⟩
  have HB1 : Hid (Below n0 w w1) := HB0.out.trans (hb.mono (by have := HRL0.out.lt; omega))
  have HRL1 := Lib.hid (Below.row hb HRL0.out HRL0.out.lt)
  have HRE1 := Lib.hid (Below.row hb HRE0.out HRE0.out.lt)
  have HV1 := Lib.hid (HV0.out.keep hb hD0)
  have hD1 : D ≤ w1.heap.size := by have := hb.size; omega
  clear hb e0 e1
  clear p0 p1 p2 p3 p4 p5 p6 p7 p8 p9
  cases hn : nodeL L.secs (s, k) with
  | none =>
    rw [hn] at HE
    have HE2 : Hid (r = []) := HE.out
    clear HE hn
    simp only [Option.getD_none, Option.isSome_none]
    go_wp2_with fail
    go_ret
    rw [HE2.out]
    exact ⟨_, rfl, Prs.nil _ _, by rw [← HN0.out.1]; exact HB1.out⟩
  | some n =>
    rw [hn] at HE
    have HMEM := Lib.hid (node_mem hn)
    simp only [Option.getD_some, Option.isSome_some] at HE ⊢
    clear hn
    have p0 := HRL1.out.cell 0; have p1 := HRL1.out.cell 1; have p2 := HRL1.out.cell 2; have p3 := HRL1.out.cell 3; have p4 := HRL1.out.cell 4; have p5 := HRL1.out.cell 5; have p6 := HRL1.out.cell 6; have p7 := HRL1.out.cell 7; have p8 := HRL1.out.cell 8; have p9 := HRL1.out.cell 9
    simp only [List.getElem?_toArray, List.getElem?_cons_zero, List.getElem?_cons_succ] at p0 p1 p2 p3 p4 p5 p6 p7 p8 p9
    go_wp2_with fail
    refine (refPoint_any w1 D _ L n HV1.out hD1 HL.out).mono ?_; rintro e w2 ⟨rfl, hb⟩
    have HB2 : Hid (Below n0 w w2) := HB1.out.trans (hb.mono (by have := HRL1.out.lt; omega))
    have HRL2 := Lib.hid (Below.row hb HRL1.out HRL1.out.lt)
    have HRE2 := Lib.hid (Below.row hb HRE1.out HRE1.out.lt)
    have HV2 := Lib.hid (HV1.out.keep hb hD1)
    have hD2 : D ≤ w2.heap.size := by have := hb.size; omega
    clear hb
    clear p0 p1 p2 p3 p4 p5 p6 p7 p8 p9
    by_cases hp : 0 ≤ pointL L.points n
    · obtain ⟨i, hi, hlt⟩ := pointL_lt hp
      have hnd := pointL_node hi hlt
      have HE2 : Hid (r = throughL L.secs L.points[i] s [L.points[i].2.2.1, L.points[i].2.2.2]) := by
        show _ = _
        have h1 := HE.out
        rw [if_pos hp, hi] at h1
        have h2 : L.points.getD i (0, 0, 0, 0) = L.points[i] := by simp [List.getD, hlt]
        simp only [Int.toNat_natCast, h2] at h1
        exact h1
      rw [hi]
      have hPo : Pts w2 D (.slice A3 m3 c3) L.points := by
        obtain ⟨_, _, _, _, _, _, e, hd⟩ := HV2.out
        injection e with e
        simp at e
        obtain ⟨-, -, -, e3, -⟩ := e
        rw [e3]; exact hd.q
      obtain ⟨b, o, hA, -, c0', c1', c2', c3'⟩ := hPo.at i hlt
      subst hA
      have him : i < m3 := by have := HM3.out; omega
      clear HE hi hp hPo
      generalize L.points[i] = z at *
      obtain ⟨z0, z1, z2, z3⟩ := z
      simp only at c0' c1' c2' c3' HE2 hnd
      subst hnd
      have f3 := HRL2.out.cell 3
      simp only [List.getElem?_toArray, List.getElem?_cons_zero, List.getElem?_cons_succ] at f3
      have hb3 := (Below.refl w2.heap.size w2).alloc (Nat.le_refl _) (.cells #[.int .i64 z0, .int .i64 z1, .int .i64 z2, .int .i64 z3] 72)
      have HB3 : Hid (Below n0 w (w2.alloc (.cells #[.int .i64 z0, .int .i64 z1, .int .i64 z2, .int .i64 z3] 72))) := HB2.out.trans (hb3.mono (by have := HRL2.out.lt; omega))
      have HRL3 := Lib.hid (HRL2.out.alloc (.cells #[.int .i64 z0, .int .i64 z1, .int .i64 z2, .int .i64 z3] 72))
      have HRE3 := Lib.hid (HRE2.out.alloc (.cells #[.int .i64 z0, .int .i64 z1, .int .i64 z2, .int .i64 z3] 72))
      have HV3 := Lib.hid (HV2.out.keep hb3 hD2)
      have HRZ3 := Lib.hid (Row.new w2 72 #[.int .i64 z0, .int .i64 z1, .int .i64 z2, .int .i64 z3])
      have hD3 : D ≤ (w2.alloc (.cells #[.int .i64 z0, .int .i64 z1, .int .i64 z2, .int .i64 z3] 72)).heap.size := by simp; omega
      clear hb3
      go_upto_region 8 with (fail)
      obtain ⟨a3, ha3⟩ : ∃ x, x = w2.heap.size := ⟨_, rfl⟩
      rw [← ha3] at HRZ3 ⊢
      clear ha3 c0' c1' c2' c3' f3
      generalize w2.alloc (.cells #[.int .i64 z0, .int .i64 z1, .int .i64 z2, .int .i64 z3] 72) = w3 at *
      have p0 := HRL3.out.cell 0; have p1 := HRL3.out.cell 1; have p2 := HRL3.out.cell 2; have p3 := HRL3.out.cell 3; have p4 := HRL3.out.cell 4; have p5 := HRL3.out.cell 5; have p6 := HRL3.out.cell 6; have p7 := HRL3.out.cell 7; have p8 := HRL3.out.cell 8; have p9 := HRL3.out.cell 9
      simp only [List.getElem?_toArray, List.getElem?_cons_zero, List.getElem?_cons_succ] at p0 p1 p2 p3 p4 p5 p6 p7 p8 p9
      have e0 := HRE3.out.cell 0; have e1 := HRE3.out.cell 1
      simp only [List.getElem?_toArray, List.getElem?_cons_zero, List.getElem?_cons_succ] at e0 e1
      have q0 := HRZ3.out.cell 0; have q1 := HRZ3.out.cell 1; have q2 := HRZ3.out.cell 2; have q3 := HRZ3.out.cell 3
      simp only [List.getElem?_toArray, List.getElem?_cons_zero, List.getElem?_cons_succ] at q0 q1 q2 q3
      by_cases hst : s = z1
      · have HE3 : Hid (r = oneL L.secs z2 z0 ++ oneL L.secs z3 z0) := by show _ = _; rw [HE2.out]; unfold throughL; rw [if_pos hst]; simp
        have hst2 := hst.symm
        subst hst2
        clear HE2 hst
        have hl1 := oneL_le L.secs z2 z0
        have hl2 := oneL_le L.secs z3 z0
        go_wp2_with fail
        refine (refOne_any w3 D _ L z2 z0 HV3.out hD3 HL.out).mono ?_; rintro e w4 ⟨v4, rfl, hp4, hb⟩
        have HB4 : Hid (Below n0 w w4) := HB3.out.trans (hb.mono (by have := HRL3.out.lt; omega))
        have HRL4 := Lib.hid (Below.row hb HRL3.out HRL3.out.lt)
        have HRE4 := Lib.hid (Below.row hb HRE3.out HRE3.out.lt)
        have HV4 := Lib.hid (HV3.out.keep hb hD3)
        have hD4 : D ≤ w4.heap.size := by have := hb.size; omega
        have HRZ4 := Lib.hid (Below.row hb HRZ3.out HRZ3.out.lt)
        obtain ⟨A5, c5, hv5, -⟩ := id hp4
        subst hv5
        have HP4 := Lib.hid hp4
        clear hb hp4 e0 e1 q0 q1 q2 q3
        clear p0 p1 p2 p3 p4 p5 p6 p7 p8 p9
        have HO4 : Hid (w4.ownsRow w4.heap.size 85 2 (.slice none 0 0) 0 (ecells [])) := World.ownsRow_nil _ _ _ _
        generalize oneL L.secs z2 z0 = y4 at *
        go_wp2_with (at_builtin; (refine wpList_app_prs rfl (.tmp 35) (.tmp 40) 86 rfl w4.heap.size 85 i4 _ Try.underlying86 hi4 hz40 hz41 hz42 rfl (.slice none 0 0) 0 [] rfl HO4.out _ y4 rfl HP4.out (by omega) (Nat.le_refl _) ?_))
        intro v5 w5 hown5 hgrow5
        obtain ⟨A6, c6, hv6⟩ := own_slice hown5
        subst hv6
        have hb5 : Below w4.heap.size w4 w5 := (Below.refl _ _).grown hgrow5 (Nat.le_refl _) (fun k hk => by cases hk)
        have HB5 : Hid (Below n0 w w5) := HB4.out.trans (hb5.mono (by have := HRL4.out.lt; omega))
        have HRL5 := Lib.hid (Below.row hb5 HRL4.out HRL4.out.lt)
        have HRE5 := Lib.hid (Below.row hb5 HRE4.out HRE4.out.lt)
        have HRZ5 := Lib.hid (Below.row hb5 HRZ4.out HRZ4.out.lt)
        have HV5 := Lib.hid (HV4.out.keep hb5 hD4)
        have hD5 : D ≤ w5.heap.size := by have := hb5.size; omega
        have HO5 : Hid (w5.ownsRow w4.heap.size 85 2 (.slice A6 y4.length c6) y4.length (ecells y4)) := hown5
        have HS5 : Hid (w4.heap.size ≤ w5.heap.size) := hb5.size
        clear hown5 hgrow5 hb5
        have p0 := HRL5.out.cell 0; have p1 := HRL5.out.cell 1; have p2 := HRL5.out.cell 2; have p3 := HRL5.out.cell 3; have p4 := HRL5.out.cell 4; have p5 := HRL5.out.cell 5; have p6 := HRL5.out.cell 6; have p7 := HRL5.out.cell 7; have p8 := HRL5.out.cell 8; have p9 := HRL5.out.cell 9
        simp only [List.getElem?_toArray, List.getElem?_cons_zero, List.getElem?_cons_succ] at p0 p1 p2 p3 p4 p5 p6 p7 p8 p9
        have q0 := HRZ5.out.cell 0; have q1 := HRZ5.out.cell 1; have q2 := HRZ5.out.cell 2; have q3 := HRZ5.out.cell 3
        simp only [List.getElem?_toArray, List.getElem?_cons_zero, List.getElem?_cons_succ] at q0 q1 q2 q3
        go_wp2_with fail
        refine (refOne_any w5 D _ L z3 z0 HV5.out hD5 HL.out).mono ?_; rintro e w6 ⟨v6, rfl, hp6, hb⟩
        have HB6 : Hid (Below n0 w w6) := HB5.out.trans (hb.mono (by have := HRL5.out.lt; omega))
        have HRL6 := Lib.hid (Below.row hb HRL5.out HRL5.out.lt)
        have HRE6 := Lib.hid (Below.row hb HRE5.out HRE5.out.lt)
        have HV6 := Lib.hid (HV5.out.keep hb hD5)
        have hD6 : D ≤ w6.heap.size := by have := hb.size; omega
        obtain ⟨A7, c7, hv7, -⟩ := id hp6
        subst hv7
        have HP6 := Lib.hid hp6
        have HO6 := Lib.hid (own_below HO5.out hb)
        have HS6 : Hid (w4.heap.size ≤ w6.heap.size) := Nat.le_trans HS5.out hb.size
        clear hb hp6 q0 q1 q2 q3
        clear p0 p1 p2 p3 p4 p5 p6 p7 p8 p9
        generalize oneL L.secs z3 z0 = y6 at *
        go_wp2_with (at_builtin; refine wpList_app_prs rfl (.tmp 42) (.tmp 47) 86 rfl w4.heap.size 85 i4 _ Try.underlying86 hi4 hz40 hz41 hz42 rfl _ _ y4 rfl HO6.out _ y6 rfl HP6.out (by omega) HS6.out ?_)
        intro v8 w8 hown8 hgrow8
        have HP8 := Lib.hid (Prs.of_own hown8)
        have HB8 : Hid (Below n0 w w8) := HB6.out.grown hgrow8 (by have := HB6.out.size; have := HN0.out; omega) (fun k hk => by have h1 := (HO6.out.lt k hk).1; have h2 := HRL4.out.lt; omega)
        clear hown8 hgrow8
        go_wp2_with fail
        go_ret
        rw [HE3.out]
        exact ⟨_, rfl, HP8.out, by rw [← HN0.out.1]; exact HB8.out⟩
      · have hnst : ¬ s = z1 := hst
        by_cases hin : s = z2 ∨ s = z3
        · have HE3 : Hid (r = oneL L.secs z1 z0) := by
            show _ = _
            rw [HE2.out]; unfold throughL
            rw [if_neg hst, if_pos (by simp; exact hin)]
          clear HE2
          have hin1 : s = z2 ∨ (¬ s = z2 ∧ s = z3) := by omega
          rcases hin1 with h2 | ⟨h2, h3⟩
          · have h2s := h2.symm
            subst h2s
            go_wp2_with fail
            refine (refOne_any w3 D _ L z1 z0 HV3.out hD3 HL.out).mono ?_; rintro e w4 ⟨v4, rfl, hp4, hb⟩
            have HB4 : Hid (Below n0 w w4) := HB3.out.trans (hb.mono (by have := HRL3.out.lt; omega))
            have HRL4 := Lib.hid (Below.row hb HRL3.out HRL3.out.lt)
            have HRE4 := Lib.hid (Below.row hb HRE3.out HRE3.out.lt)
            have HV4 := Lib.hid (HV3.out.keep hb hD3)
            have hD4 : D ≤ w4.heap.size := by have := hb.size; omega
            have HP4 := Lib.hid hp4
            clear hb hp4 e0 e1 q0 q1 q2 q3
            clear p0 p1 p2 p3 p4 p5 p6 p7 p8 p9
            go_wp2_with fail
            go_ret
            rw [HE3.out]
            exact ⟨_, rfl, HP4.out, by rw [← HN0.out.1]; exact HB4.out⟩
          · have h3s := h3.symm
            subst h3s
            go_wp2_with fail
            refine (refOne_any w3 D _ L z1 z0 HV3.out hD3 HL.out).mono ?_; rintro e w4 ⟨v4, rfl, hp4, hb⟩
            have HB4 : Hid (Below n0 w w4) := HB3.out.trans (hb.mono (by have := HRL3.out.lt; omega))
            have HRL4 := Lib.hid (Below.row hb HRL3.out HRL3.out.lt)
            have HRE4 := Lib.hid (Below.row hb HRE3.out HRE3.out.lt)
            have HV4 := Lib.hid (HV3.out.keep hb hD3)
            have hD4 : D ≤ w4.heap.size := by have := hb.size; omega
            have HP4 := Lib.hid hp4
            clear hb hp4 e0 e1 q0 q1 q2 q3
            clear p0 p1 p2 p3 p4 p5 p6 p7 p8 p9
            go_wp2_with fail
            go_ret
            rw [HE3.out]
            exact ⟨_, rfl, HP4.out, by rw [← HN0.out.1]; exact HB4.out⟩
        · have HE3 : Hid (r = []) := by
            show _ = _
            rw [HE2.out]; unfold throughL
            rw [if_neg hst, if_neg (by simp; omega)]
          have hn2 : ¬ s = z2 := by omega
          have hn3 : ¬ s = z3 := by omega
          have hb2 : (s == z2) = false := by simpa using hn2
          have hb3 : (s == z3) = false := by simpa using hn3
          clear HE2
          go_wp2_with fail
          go_ret
          rw [HE3.out]
          exact ⟨_, rfl, Prs.nil _ _, by rw [← HN0.out.1]; exact HB3.out⟩
    · have HE2 : Hid (r = if (butL (endsL L.secs n) (s, k)).length = 1 then butL (endsL L.secs n) (s, k) else []) := by
        show _ = _
        rw [HE.out, if_neg hp]
        exact across_eq (endsTo_nodup _ _ _) HMEM.out
      clear HE
      generalize pointL L.points n = pp at *
      have p0 := HRL2.out.cell 0; have p1 := HRL2.out.cell 1; have p2 := HRL2.out.cell 2; have p3 := HRL2.out.cell 3; have p4 := HRL2.out.cell 4; have p5 := HRL2.out.cell 5; have p6 := HRL2.out.cell 6; have p7 := HRL2.out.cell 7; have p8 := HRL2.out.cell 8; have p9 := HRL2.out.cell 9
      simp only [List.getElem?_toArray, List.getElem?_cons_zero, List.getElem?_cons_succ] at p0 p1 p2 p3 p4 p5 p6 p7 p8 p9
      go_wp2_with fail
      refine (refEnds_any w2 D _ L n HV2.out hD2 HL.out).mono ?_; rintro e w3 ⟨v3, rfl, ho3, hb⟩
      have HB3 : Hid (Below n0 w w3) := HB2.out.trans (hb.mono (by have := HRL2.out.lt; omega))
      have HRL3 := Lib.hid (Below.row hb HRL2.out HRL2.out.lt)
      have HRE3 := Lib.hid (Below.row hb HRE2.out HRE2.out.lt)
      have HV3 := Lib.hid (HV2.out.keep hb hD2)
      have hD3 : D ≤ w3.heap.size := by have := hb.size; omega
      obtain ⟨A, c, hv3⟩ := own_slice ho3
      subst hv3
      have HP := Lib.hid (Prs.of_own ho3)
      have hel : (endsL L.secs n).length ≤ 200 := by have := endsTo_le L.secs n L.secs.length; unfold endsL; omega
      clear hb ho3
      clear p0 p1 p2 p3 p4 p5 p6 p7 p8 p9
      generalize endsL L.secs n = es at *
      obtain ⟨B3, hB3⟩ : ∃ x, x = w3.heap.size := ⟨_, rfl⟩
      have HB3e := Lib.hid hB3
      have hB3' : B3 ≤ w3.heap.size := by omega
      have HN1 : Hid (n0 < B3 ∧ n1 < B3) := by have h1 := HRL3.out.lt; have h2 := HRE3.out.lt; exact ⟨by omega, by omega⟩
      clear hB3
      go_wp2_with fail
      go_loopw [8, 11] (fun t k9 wr => ∃ i : Nat, i ≤ es.length ∧ k9 = .int .i64 i ∧ Hid (wr.ownsRow B3 85 2 t (butL (es.take i) (s, k)).length (ecells (butL (es.take i) (s, k))) ∧ Below B3 w3 wr)) (fun _ k9 _ => es.length - (intOf k9).toNat)
      case atStart => exact ⟨0, Nat.zero_le _, rfl, World.ownsRow_nil _ _ _ _, Below.refl _ _⟩
      case round =>
        obtain ⟨i, hi, rfl, HJ⟩ := hrel
        obtain ⟨At, ct, hvt⟩ := own_slice HJ.out.1
        subst hvt
        by_cases hlt : i < es.length
        · obtain ⟨b, o, hA, hbD, g0, g1⟩ := HP.out.at i hlt
          subst hA
          have hbB : b < B3 := by have := HB3e.out; omega
          have q0 := (HJ.out.2.cell (p := ⟨b, o + i * 2, none⟩) hbB).trans g0
          have q1 := (HJ.out.2.cell (p := ⟨b, o + i * 2 + 1, none⟩) hbB).trans g1
          have rE := Below.row HJ.out.2 HRE3.out HN1.out.2
          have e0 := rE.cell 0; have e1 := rE.cell 1
          simp only [List.getElem?_toArray, List.getElem?_cons_zero, List.getElem?_cons_succ] at e0 e1
          have HSN := Lib.hid (butL_take es (s, k) i hlt)
          have hbl : (butL (es.take i) (s, k)).length ≤ 200 := by have h1 := butL_le (es.take i) (s, k); simp at h1; omega
          clear g0 g1 rE
          generalize es[i] = z at *
          obtain ⟨x0, x1⟩ := z
          simp only at q0 q1 HSN
          have qe := neq_end x0 x1 s k
          go_upto_region 18 with (fail)
          obtain ⟨bs, hbs⟩ : ∃ bs, butL (es.take i) (s, k) = bs := ⟨_, rfl⟩
          rw [hbs] at HJ HSN hbl
          simp only [hbs]
          clear hbs
          by_cases hxe : x0 = s ∧ x1 = k
          · obtain ⟨h1, h2⟩ := hxe
            have hq9 : (!(x0 == s && x1 == k)) = false := by rw [h1, h2]; simp
            rw [hq9] at qe
            have HS3 : Hid (butL (es.take (i + 1)) (s, k) = bs) := by show _ = _; rw [HSN.out, if_pos (by rw [h1, h2]), List.append_nil]
            clear HSN hq9 h1 h2
            go_quiet (fail)
            clear qe q0 q1 e0 e1
            go_wp2_with fail
            go_roundw
            case rel => exact ⟨i + 1, by omega, by go_num, by rw [HS3.out]; exact HJ.out.1, HJ.out.2.os, HJ.out.2.tape, HJ.out.2.output, HJ.out.2.size, HJ.out.2.block⟩
            case measure => simp [intOf]; omega
          · have hne : ¬ (x0, x1) = (s, k) := by intro e; injection e with e1 e2; exact hxe ⟨e1, e2⟩
            have hq9 : (!(x0 == s && x1 == k)) = true := by
              rw [Bool.not_eq_true', Bool.and_eq_false_iff]
              by_cases h1 : x0 = s
              · right; simp; exact fun h2 => hxe ⟨h1, h2⟩
              · left; simpa using h1
            rw [hq9] at qe
            have HS3 : Hid (butL (es.take (i + 1)) (s, k) = bs ++ [(x0, x1)]) := by show _ = _; rw [HSN.out, if_neg hne]
            clear HSN hq9 hxe hne
            go_quiet (fail)
            have HJ2 : Hid ((wr.drewN nq).ownsRow B3 85 2 (.slice At bs.length ct) bs.length (ecells bs) ∧ Below B3 w3 (wr.drewN nq)) := ⟨HJ.out.1, HJ.out.2.os, HJ.out.2.tape, HJ.out.2.output, HJ.out.2.size, HJ.out.2.block⟩
            have q0' : (wr.drewN nq).cell? ⟨b, o + i * 2, none⟩ = some (.int .i64 x0) := q0
            have q1' : (wr.drewN nq).cell? ⟨b, o + i * 2 + 1, none⟩ = some (.int .i64 x1) := q1
            clear HJ qe q0 q1 e0 e1
            generalize wr.drewN nq = wq at *
            go_wp2_with (at_builtin; refine wpList_append_own _ rfl (.tmp 81) (.tmp 86) 86 rfl B3 85 i4 (.agg #[.int .i64 0, .int .i64 0]) 2 16 Try.underlying86 hi4 hz40 hz41 hz42 rfl (by decide) _ _ _ rfl (HJ2.out.1.alloc _) ⟨wq.heap.size, 0, none⟩ 1 1 [.int .i64 x0, .int .i64 x1] rfl rfl (row_new wq 85 _) (by intro u hu; simp at hu; rcases hu with rfl | rfl <;> rfl) (by unfold maxLen; omega) (by omega) (by have := HJ2.out.2.size; simp; omega) ?_)
            intro v7 w7 hown7 hgrow7 _
            have HNX : Hid (w7.ownsRow B3 85 2 v7 (butL (es.take (i + 1)) (s, k)).length (ecells (butL (es.take (i + 1)) (s, k))) ∧ Below B3 w3 w7) := by
              refine ⟨?_, (HJ2.out.2.alloc (by have := HJ2.out.2.size; omega) _).grown hgrow7 (by have := HJ2.out.2.size; simp; omega) (fun k hk => (HJ2.out.1.lt k hk).1)⟩
              rw [HS3.out, List.length_append, ← ecells_snoc bs (x0, x1)]
              exact hown7
            clear hown7 hgrow7 q0' q1'
            go_wp2_with fail
            go_roundw
            case rel => exact ⟨i + 1, by omega, by go_num, HNX⟩
            case measure => simp [intOf]; omega
        · have HT : Hid (butL (es.take i) (s, k) = butL es (s, k)) := by show _ = _; rw [List.take_of_length_le (by omega)]
          rw [HT.out] at HJ
          have HPO := Lib.hid (Prs.of_own HJ.out.1)
          have HBO : Hid (Below n0 w wr) := HB3.out.trans (HJ.out.2.mono (by have := HN1.out; omega))
          simp only [HT.out]
          clear HJ HT
          generalize butL es (s, k) = bs at *
          by_cases h1 : bs.length = 1
          · have HE3 : Hid (r = bs) := by show _ = _; rw [HE2.out, if_pos h1]
            have h1i : (bs.length : Int) = 1 := by omega
            clear HE2
            go_wp2_with fail
            go_ret
            rw [HE3.out]
            exact ⟨_, rfl, HPO.out, by rw [← HN0.out.1]; exact HBO.out⟩
          · have HE3 : Hid (r = []) := by show _ = _; rw [HE2.out, if_neg h1]
            have h1i : ¬ (bs.length : Int) = 1 := by omega
            clear HE2
            go_wp2_with fail
            go_ret
            rw [HE3.out]
            exact ⟨_, rfl, Prs.nil _ _, by rw [← HN0.out.1]; exact HBO.out⟩

end Go.Proofs.Ytifcgkpannlnnaa
