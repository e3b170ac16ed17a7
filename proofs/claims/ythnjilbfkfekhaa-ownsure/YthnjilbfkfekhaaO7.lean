/- Contract of the document: Next. -/
import Derived.Test.YthnjilbfkfekhaaO6
namespace Go.Proofs.Ythnjilbfkfekhaa
open Go.RowKit Fl
set_option maxRecDepth 100000

def outO (f : Nat → Int) (i : Nat) : List Int := (List.range i).map f
theorem outO_len (f : Nat → Int) (i : Nat) : (outO f i).length = i := by simp [outO]
theorem outO_succ (f : Nat → Int) (i : Nat) : outO f (i + 1) = outO f i ++ [f i] := by simp [outO, List.range_succ]

/-- What the document's Next keeps. -/
structure RxSt (w : World) (n0 : Nat) (cl : Array Value) (v9 : Value) (f : Nat → Int) (i : Nat) (W : World) : Prop where
  own : W.ownsRow w.heap.size 3 1 v9 i (ivals (outO f i))
  bel : Below w.heap.size w W
  row : Row W n0 39 cl
theorem RxSt.call {w : World} {n0 : Nat} {cl : Array Value} {v9 : Value} {f : Nat → Int} {i : Nat} {W W' : World} (h : RxSt w n0 cl v9 f i W) (hb : Below W.heap.size W W') : RxSt w n0 cl v9 f i W' :=
  ⟨own_below h.own hb, h.bel.trans (hb.mono h.bel.size), Below.row hb h.row h.row.lt⟩
theorem RxSt.put {w : World} {n0 : Nat} {cl : Array Value} {v9 v' : Value} {f : Nat → Int} {i : Nat} {W W' : World} {z : Int} (h : RxSt w n0 cl v9 f i W) (hz : f i = z)
    (hown : W'.ownsRow w.heap.size 3 1 v' (i + 1) (ivals (outO f i) ++ [.int .i64 z])) (hg : (W.alloc (.cells #[.int .i64 z] 3)).grownBy W' v9.ownBlock) : RxSt w n0 cl v' f (i + 1) W' := by
  have hs := h.bel.size
  have hba : Below w.heap.size w (W.alloc (.cells #[.int .i64 z] 3)) := h.bel.alloc hs _
  refine ⟨?_, hba.grown hg (by have := hba.size; omega) (fun kk hk => (h.own.lt kk hk).1), (h.row.alloc _).grown hg (own_ne h.own h.row (by decide))⟩
  rw [outO_succ, hz, ← ivals_snoc']
  exact hown

set_option maxHeartbeats 8000000 in
theorem refNextO_any (w : World) (vl vw vc vv : Value) (L : Lay) (was : List Int) (clr : List Bool) (xs : List Vw) (hlay : LayV w w.heap.size vl L) (hL : Fits L) (hlw : was.length = L.parts.length) (hlc : clr.length = L.parts.length)
    (hw : Rd w w.heap.size vw (ivals was)) (hc : Rd w w.heap.size vc (cvals clr)) (hv : Vws w w.heap.size vv xs) (hok : OkO was) (hx : OkV xs) :
    Calls Try.prog 19 #[vl, vw, vc, vv] w (RetOwn w.heap.size (nextO L was clr xs) w) := by
  obtain ⟨A0, k0, c0, A1, k1, c1, A2, k2, c2, A3, k3, c3, A4, k4, c4, t0, t1, t2, t3, t4, hvl, _, _, hk2, _⟩ := hlay.lens
  subst hvl
  have hb0 := (Below.refl w.heap.size w).alloc (Nat.le_refl _) (.cells #[.slice A0 k0 c0, .slice A1 k1 c1, .slice A2 k2 c2, .slice A3 k3 c3, .slice A4 k4 c4, .int .i64 t0, .int .i64 t1, .int .i64 t2, .int .i64 t3, .int .i64 t4] 39)
  have hr0 := Row.new w 39 #[.slice A0 k0 c0, .slice A1 k1 c1, .slice A2 k2 c2, .slice A3 k3 c3, .slice A4 k4 c4, .int .i64 t0, .int .i64 t1, .int .i64 t2, .int .i64 t3, .int .i64 t4]
  obtain ⟨n0, hn0⟩ : ∃ n, n = w.heap.size := ⟨_, rfl⟩
  have hn1 := hn0
  rw [← hn0] at hr0
  have HS0 : Hid (RxSt w n0 #[.slice A0 k0 c0, .slice A1 k1 c1, .slice A2 k2 c2, .slice A3 k3 c3, .slice A4 k4 c4, .int .i64 t0, .int .i64 t1, .int .i64 t2, .int .i64 t3, .int .i64 t4] (.slice none 0 0) (partO L was clr xs) 0 (w.alloc (.cells #[.slice A0 k0 c0, .slice A1 k1 c1, .slice A2 k2 c2, .slice A3 k3 c3, .slice A4 k4 c4, .int .i64 t0, .int .i64 t1, .int .i64 t2, .int .i64 t3, .int .i64 t4] 39))) :=
    ⟨World.ownsRow_nil _ _ _ _, hb0, hr0⟩
  have HLY := Lib.hid hlay
  have HW := Lib.hid hw; have HC := Lib.hid hc; have HV := Lib.hid hv
  have HF := Lib.hid hL; have HOK := Lib.hid hok; have HX := Lib.hid hx
  have HLW := Lib.hid hlw; have HLC := Lib.hid hlc
  obtain ⟨Aw, cw, rfl, -, -⟩ := id hw
  obtain ⟨Ac, cc, rfl, -, -⟩ := id hc
  obtain ⟨Av, cv, vvs, rfl, -⟩ := id hv
  have HK2 : Hid (L.parts.length = k2 ∧ k2 ≤ 100) := ⟨hk2, by rw [← hk2]; exact hL.p⟩
  have hil : (ivals was).length = k2 := by rw [← hk2, ← hlw]; simp [ivals]
  have hcl : (cvals clr).length = k2 := by rw [← hk2, ← hlc]; simp [cvals]
  rw [hil] at HW ⊢
  rw [hcl] at HC ⊢
  have HE : Hid (nextO L was clr xs = outO (partO L was clr xs) k2) := by show _ = _; unfold nextO outO; rw [hk2]
  clear hlay hb0 hL hlw hlc hw hc hv hok hx hr0 hil hcl hk2
  have hk100 := HK2.out.2
  obtain ⟨i3, hi3, hz30, hz31, hz32⟩ := info_parts Try.info3n
  go_enter Try.func19, Try.ntmps19
  go_upto_region 1 with (fail)
  rw [← hn0]
  have HN := Lib.hid hn1
  clear hn0 hn1
  generalize w.alloc (.cells #[.slice A0 k0 c0, .slice A1 k1 c1, .slice A2 k2 c2, .slice A3 k3 c3, .slice A4 k4 c4, .int .i64 t0, .int .i64 t1, .int .i64 t2, .int .i64 t3, .int .i64 t4] 39) = W0 at *
  go_wp2_with fail
  go_loopw [9, 10] (fun v9 k wr => ∃ i : Nat, i ≤ k2 ∧ k = .int .i64 i ∧ Hid (RxSt w n0 #[.slice A0 k0 c0, .slice A1 k1 c1, .slice A2 k2 c2, .slice A3 k3 c3, .slice A4 k4 c4, .int .i64 t0, .int .i64 t1, .int .i64 t2, .int .i64 t3, .int .i64 t4] v9 (partO L was clr xs) i wr)) (fun _ k _ => k2 - (intOf k).toNat)
  case atStart => exact ⟨0, Nat.zero_le _, rfl, HS0.out⟩
  case round =>
    obtain ⟨i, hi, rfl, HJ⟩ := hrel
    obtain ⟨A9, c9, hv9⟩ := own_slice HJ.out.own
    subst hv9
    clear HS0
    have l2 := HJ.out.row.cell 2
    simp only [List.getElem?_toArray, List.getElem?_cons_zero, List.getElem?_cons_succ] at l2
    by_cases hlt : i < k2
    · have hli : (i : Int) < (k2 : Int) := by omega
      have hiw : i < was.length := by have := HLW.out; have := HK2.out; omega
      have hic : i < clr.length := by have := HLC.out; have := HK2.out; omega
      obtain ⟨bc, oc, hAc, hbc, qc⟩ := (HC.out.below HJ.out.bel (Nat.le_refl _)).at (i := i) (u := .bool (clr.getD i false)) (by simp [cvals, hic, List.getD])
      subst hAc
      obtain ⟨cb, hcb⟩ : ∃ b, clr.getD i false = b := ⟨_, rfl⟩
      have HCB := Lib.hid hcb
      rw [hcb] at qc
      clear hcb
      cases cb with
      | true =>
        have hpo : partO L was clr xs i = -2 := by unfold partO; rw [if_pos HCB.out]
        have HPO := Lib.hid hpo
        clear hpo
        go_wp2_with (at_builtin; refine wpList_append_own_at _ rfl (.tmp 26) (.tmp 27) 45 rfl w.heap.size 3 i3 (.int .i64 0) 1 8 Try.underlying45 hi3 hz30 hz31 hz32 rfl (by decide) _ _ _ rfl (HJ.out.own.alloc _) ⟨wr.heap.size, 0, none⟩ 1 1 [.int .i64 (-2)] rfl rfl (one_new wr 3 _) (one_cell rfl) (by unfold maxLen; omega) (by omega) (by have := HJ.out.bel.size; simp; omega) ?_)
        intro v7 w7 hown7 hgrow7 _ _
        have HNX := Lib.hid (HJ.out.put HPO.out hown7 hgrow7)
        clear hown7 hgrow7
        go_wp2_with fail
        go_roundw
        case rel => exact ⟨i + 1, by omega, by go_num, HNX.out⟩
        case measure => simp [intOf]; omega
      | false =>
        obtain ⟨bw, ow, hAw, hbw, qw⟩ := (HW.out.below HJ.out.bel (Nat.le_refl _)).at (i := i) (u := .int .i64 (was.getD i 0)) (by simp [ivals, hiw, List.getD])
        subst hAw
        have HPO : Hid (partO L was clr xs i = if 0 ≤ whoO L was i ∧ holdsB xs (L.parts.getD i []) (whoO L was i) = true then whoO L was i else -1) := by
          show _ = _; unfold partO; rw [HCB.out]; rfl
        have hwo := whoO_ok (L := L) HOK.out i
        have HWO := Lib.hid hwo
        have hwe : foldO was (was.getD i 0) (besideL L (i : Int)) = whoO L was i := rfl
        have HWE := Lib.hid hwe
        clear hwo hwe
        obtain ⟨a0, ha0⟩ : ∃ a, was.getD i 0 = a := ⟨_, rfl⟩
        have HA0 := HOK.out.getD i
        rw [ha0] at HWE qw HA0
        have HA1 := Lib.hid HA0
        clear ha0 HA0
        obtain ⟨r, hr⟩ : ∃ r, whoO L was i = r := ⟨_, rfl⟩
        rw [hr] at HPO HWO HWE
        clear hr
        have f0 := HJ.out.row.cell 0; have f1 := HJ.out.row.cell 1; have f3 := HJ.out.row.cell 3; have f4 := HJ.out.row.cell 4; have f5 := HJ.out.row.cell 5; have f6 := HJ.out.row.cell 6; have f7 := HJ.out.row.cell 7; have f8 := HJ.out.row.cell 8; have f9 := HJ.out.row.cell 9
        simp only [List.getElem?_toArray, List.getElem?_cons_zero, List.getElem?_cons_succ] at f0 f1 f3 f4 f5 f6 f7 f8 f9
        have HBS := Lib.hid (refBeside_any wr w.heap.size _ L (i : Int) (HLY.out.keep HJ.out.bel (Nat.le_refl _)) HJ.out.bel.size HF.out)
        go_wp2_with fail
        refine HBS.out.mono ?_; rintro e w3 ⟨vb, rfl, hob, hb3⟩
        have HS3 := Lib.hid (HJ.out.call hb3)
        have HBR := Lib.hid (Rd.of_own hob)
        obtain ⟨Ab, cb, hvb⟩ := own_slice hob
        subst hvb
        have hbl := besideL_len HF.out (i : Int)
        have hbin : ∀ b ∈ besideL L (i : Int), ∃ k : Nat, b = (k : Int) ∧ k < k2 := fun b hb => by obtain ⟨k, h1, h2⟩ := besideL_in hb; exact ⟨k, h1, by have := HK2.out; omega⟩
        have HBI := Lib.hid hbin
        clear hb3 hob HJ HBS l2 qc qw f0 f1 f3 f4 f5 f6 f7 f8 f9 hbin
        generalize besideL L (i : Int) = bs at *
        obtain ⟨m, hm⟩ : ∃ m, bs.length = m := ⟨_, rfl⟩
        rw [hm] at HBR hbl ⊢
        have HM := Lib.hid hm
        clear hm
        have HA2 : Hid (∀ k : Nat, k < k2 → w3.cell? ⟨bw, ow + k, none⟩ = some (.int .i64 (was.getD k 0))) := fun k hk => by
          obtain ⟨b, o, hA, _, q⟩ := (HW.out.below HS3.out.bel (Nat.le_refl _)).at (i := k) (u := .int .i64 (was.getD k 0)) (by have : k < was.length := by { have := HLW.out; have := HK2.out; omega }; simp [ivals, this, List.getD])
          injection hA with hA
          injection hA with e1 e2
          subst e1 e2
          exact q
        go_wp2_with fail
        go_loop [11, 13] (fun who k => ∃ j : Nat, j ≤ m ∧ k = .int .i64 j ∧ who = .int .i64 (foldO was a0 (bs.take j))) (fun _ k => m - (intOf k).toNat)
        case atStart => exact ⟨0, Nat.zero_le _, rfl, by simp [foldO]⟩
        case round =>
          obtain ⟨j, hj, rfl, rfl⟩ := hrel
          obtain ⟨y, hy⟩ : ∃ y, foldO was a0 (bs.take j) = y := ⟨_, rfl⟩
          have HY := Lib.hid hy
          rw [hy]
          clear hy
          go_upto_region 10 with (fail)
          go_cut [43] (fun v wx => v = .bool (decide (j < m) && !(y == -1)) ∧ wx = w3)
          case first =>
            by_cases h1 : j < m
            · have h1i : (j : Int) < (m : Int) := by omega
              by_cases h2 : y = -1
              · subst h2
                go_wp2_with fail
                go_meet
                case rel => exact ⟨by simp, rfl⟩
              · have h2i : (y == -1) = false := by simpa using h2
                go_wp2_with fail
                go_meet
                case rel => exact ⟨by simp [h1, h2i, bne], rfl⟩
            · have h1i : ¬ (j : Int) < (m : Int) := by omega
              go_wp2_with fail
              go_meet
              case rel => exact ⟨by simp [h1], rfl⟩
          case rest =>
          obtain ⟨rfl, hwc⟩ := hcut
          have hwd := hwc.symm
          subst hwd
          cases hcd : (decide (j < m) && !(y == -1)) with
          | true =>
            rw [Bool.and_eq_true, decide_eq_true_iff, Bool.not_eq_true', beq_eq_false_iff_ne] at hcd
            obtain ⟨h1, h2⟩ := hcd
            have hjb : j < bs.length := by have := HM.out; omega
            obtain ⟨bb, ob, hAb, -, qb⟩ := HBR.out.at (i := j) (u := .int .i64 bs[j]) (by simp [ivals, hjb])
            subst hAb
            have HST : Hid (foldO was a0 (bs.take (j + 1)) = togO y (was.getD bs[j].toNat 0)) := by show _ = _; rw [foldO_snoc was a0 bs j hjb, HY.out]
            obtain ⟨k, hk, hk2⟩ := HBI.out bs[j] (List.getElem_mem hjb)
            rw [hk] at qb HST
            rw [Int.toNat_natCast] at HST
            clear hk
            have qw2 := HA2.out k hk2
            have HYO := Lib.hid (foldO_ok HOK.out (bs.take j) a0 HA1.out)
            rw [HY.out] at HYO
            generalize was.getD k 0 = z at *
            have hjm : (j : Int) < (m : Int) := by omega
            by_cases h3 : z = -2
            · have h3i : (z == -2) = true := by simpa using h3
              have HT : Hid (foldO was a0 (bs.take (j + 1)) = y) := by
                show _ = _; rw [HST.out, h3]; unfold togO
                split
                · omega
                · simp
              go_wp2_with fail
              go_roundw
              case rel => exact ⟨j + 1, by omega, by go_num, by rw [HT.out]⟩
              case measure => simp [intOf]; omega
            · have h3i : (z == -2) = false := by simpa using h3
              by_cases h4 : z = y
              · have h4i : (z == y) = true := by simpa using h4
                have HT : Hid (foldO was a0 (bs.take (j + 1)) = y) := by
                  show _ = _; rw [HST.out, h4]; unfold togO
                  split
                  · rfl
                  · simp
                go_wp2_with fail
                go_roundw
                case rel => exact ⟨j + 1, by omega, by go_num, by rw [HT.out]⟩
                case measure => simp [intOf]; omega
              · have h4i : (z == y) = false := by simpa using h4
                by_cases h5 : z = -1 ∨ 0 ≤ y
                · have HT : Hid (foldO was a0 (bs.take (j + 1)) = -1) := by
                    show _ = _; rw [HST.out]; unfold togO
                    split
                    · omega
                    · rw [if_neg (by rintro (h | h) <;> omega)]
                  by_cases h6 : z = -1
                  · have h6i : (z == -1) = true := by simpa using h6
                    clear h5
                    go_wp2_with fail
                    go_roundw
                    case rel => exact ⟨j + 1, by omega, by go_num, by rw [HT.out]⟩
                    case measure => simp [intOf]; omega
                  · have h6i : (z == -1) = false := by simpa using h6
                    have h7 : 0 ≤ y := by omega
                    clear h5
                    go_wp2_with fail
                    go_roundw
                    case rel => exact ⟨j + 1, by omega, by go_num, by rw [HT.out]⟩
                    case measure => simp [intOf]; omega
                · have h6i : (z == -1) = false := by rw [beq_eq_false_iff_ne]; omega
                  have h7 : ¬ 0 ≤ y := by omega
                  have HT : Hid (foldO was a0 (bs.take (j + 1)) = z) := by
                    show _ = _; rw [HST.out]; unfold togO
                    rw [if_pos (by have := HYO.out; omega)]
                  clear h5
                  go_wp2_with fail
                  go_roundw
                  case rel => exact ⟨j + 1, by omega, by go_num, by rw [HT.out]⟩
                  case measure => simp [intOf]; omega
          | false =>
            have hyr : y = r := by
              rw [← HWE.out, ← HY.out]
              rw [Bool.and_eq_false_iff, decide_eq_false_iff_not, Bool.not_eq_false', beq_iff_eq] at hcd
              rcases hcd with h | h
              · rw [List.take_of_length_le (by have := HM.out; omega)]
              · have e : foldO was a0 bs = foldO was a0 (bs.take j ++ bs.drop j) := by rw [List.take_append_drop]
                rw [e, foldO_app, HY.out, h, foldO_one]
            subst hyr
            clear hcd HA2 HBR HBI HM HY HWE HA1
            have f0 := HS3.out.row.cell 0; have f1 := HS3.out.row.cell 1; have f2 := HS3.out.row.cell 2; have f3 := HS3.out.row.cell 3; have f4 := HS3.out.row.cell 4; have f5 := HS3.out.row.cell 5; have f6 := HS3.out.row.cell 6; have f7 := HS3.out.row.cell 7; have f8 := HS3.out.row.cell 8; have f9 := HS3.out.row.cell 9
            simp only [List.getElem?_toArray, List.getElem?_cons_zero, List.getElem?_cons_succ] at f0 f1 f2 f3 f4 f5 f6 f7 f8 f9
            by_cases hy0 : 0 ≤ y
            · have hy1 : ¬ y < 0 := by omega
              have HHO := Lib.hid (holds_any w3 _ _ L xs i y (LayV.up HLY.out HS3.out.bel) HF.out (by have := HK2.out; omega) (Vws.up HV.out HS3.out.bel) HX.out)
              obtain ⟨bo, hbo⟩ : ∃ b, holdsB xs (L.parts.getD i []) y = b := ⟨_, rfl⟩
              rw [hbo] at HHO HPO
              clear hbo
              go_upto_region 17 with (fail)
              go_wp2_with fail
              refine HHO.out.mono ?_; rintro e w4 ⟨rfl, hb4⟩
              have HS4 := Lib.hid (HS3.out.call hb4)
              clear hb4 HHO f0 f1 f2 f3 f4 f5 f6 f7 f8 f9 HS3
              cases bo with
              | true =>
                have HPN : Hid (partO L was clr xs i = y) := by show _ = _; rw [HPO.out, if_pos ⟨hy0, rfl⟩]
                go_wp2_with (at_builtin; refine wpList_append_own_at _ rfl (.tmp 77) (.tmp 79) 45 rfl w.heap.size 3 i3 (.int .i64 0) 1 8 Try.underlying45 hi3 hz30 hz31 hz32 rfl (by decide) _ _ _ rfl (HS4.out.own.alloc _) ⟨w4.heap.size, 0, none⟩ 1 1 [.int .i64 y] rfl rfl (one_new w4 3 _) (one_cell rfl) (by unfold maxLen; omega) (by omega) (by have := HS4.out.bel.size; simp; omega) ?_)
                intro v7 w7 hown7 hgrow7 _ _
                have HNX := Lib.hid (HS4.out.put HPN.out hown7 hgrow7)
                clear hown7 hgrow7
                go_wp2_with fail
                go_roundw
                case rel => exact ⟨i + 1, by omega, by go_num, HNX.out⟩
                case measure => simp [intOf]; omega
              | false =>
                have HPN : Hid (partO L was clr xs i = -1) := by show _ = _; rw [HPO.out, if_neg (by simp)]
                go_wp2_with (at_builtin; refine wpList_append_own_at _ rfl (.tmp 77) (.tmp 79) 45 rfl w.heap.size 3 i3 (.int .i64 0) 1 8 Try.underlying45 hi3 hz30 hz31 hz32 rfl (by decide) _ _ _ rfl (HS4.out.own.alloc _) ⟨w4.heap.size, 0, none⟩ 1 1 [.int .i64 (-1)] rfl rfl (one_new w4 3 _) (one_cell rfl) (by unfold maxLen; omega) (by omega) (by have := HS4.out.bel.size; simp; omega) ?_)
                intro v7 w7 hown7 hgrow7 _ _
                have HNX := Lib.hid (HS4.out.put HPN.out hown7 hgrow7)
                clear hown7 hgrow7
                go_wp2_with fail
                go_roundw
                case rel => exact ⟨i + 1, by omega, by go_num, HNX.out⟩
                case measure => simp [intOf]; omega
            · have hy1 : y < 0 := by omega
              have HPN : Hid (partO L was clr xs i = -1) := by show _ = _; rw [HPO.out, if_neg (fun h => hy0 h.1)]
              go_upto_region 17 with (fail)
              clear f0 f1 f2 f3 f4 f5 f6 f7 f8 f9
              go_wp2_with (at_builtin; refine wpList_append_own_at _ rfl (.tmp 77) (.tmp 79) 45 rfl w.heap.size 3 i3 (.int .i64 0) 1 8 Try.underlying45 hi3 hz30 hz31 hz32 rfl (by decide) _ _ _ rfl (HS3.out.own.alloc _) ⟨w3.heap.size, 0, none⟩ 1 1 [.int .i64 (-1)] rfl rfl (one_new w3 3 _) (one_cell rfl) (by unfold maxLen; omega) (by omega) (by have := HS3.out.bel.size; simp; omega) ?_)
              intro v7 w7 hown7 hgrow7 _ _
              have HNX := Lib.hid (HS3.out.put HPN.out hown7 hgrow7)
              clear hown7 hgrow7
              go_wp2_with fail
              go_roundw
              case rel => exact ⟨i + 1, by omega, by go_num, HNX.out⟩
              case measure => simp [intOf]; omega
    · have hin : i = k2 := by omega
      subst hin
      go_wp2_with fail
      go_ret
      rw [HE.out]
      exact ⟨_, rfl, by rw [outO_len]; exact HJ.out.own, HJ.out.bel⟩
end Go.Proofs.Ythnjilbfkfekhaa
