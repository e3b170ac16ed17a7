/- Contracts: Part, mustRight, IndexFunc of ends. Contracts: Beside. -/
import Derived.Test.YthnjilbfkfekhaaNA
import Derived.Test.YthnjilbfkfekhaaGC
namespace Go.Proofs.Ythnjilbfkfekhaa
open Go.RowKit Fl
set_option maxRecDepth 100000

theorem closure51 (w : World) (D : Nat) (v : Value) (xs : List Int) (n : Int) (bx : Nat) (h : Rd w D v (ivals xs)) (hl : xs.length ≤ 1000) (hx : w.cell? ⟨bx, 0, none⟩ = some (.int .i64 n)) :
    Calls Try.prog 57 #[v, .pointer (some ⟨bx, 0, none⟩)] w fun e w' => e = .returned (.bool (xs.contains n)) ∧ w = w' := by
  have HR := Lib.hid h
  clear h
  generalize hr : xs.contains n = r
  have HQ := Lib.hid hr
  clear hr
  go_enter Try.func57, Try.ntmps57
  go_wp2_with fail
  refine (contains52 w D v xs n HR.out hl).mono ?_; rintro e w' ⟨rfl, rfl⟩
  rw [HQ.out]
  go_wp2_with fail
  go_ret
  exact ⟨rfl, rfl⟩

set_option maxHeartbeats 2000000 in
theorem indexFunc50 (w : World) (D bx : Nat) (v : Value) (ps : List (List Int)) (n : Int) (h : RowsAt w D v ps) (hl : ps.length ≤ 100) (hr : ∀ x ∈ ps, x.length ≤ 100) (hx : w.cell? ⟨bx, 0, none⟩ = some (.int .i64 n)) :
    Calls Try.prog 56 #[v, .func (.func 57) #[] #[.pointer (some ⟨bx, 0, none⟩)]] w fun e w' => e = .returned (.int .i64 (partL ps n)) ∧ w = w' := by
  obtain ⟨vs, hv, hvl, hve⟩ := h
  obtain ⟨A, c, rfl, -, hc⟩ := hv
  have HX := Lib.hid hx
  have HC := Lib.hid hc; have HVE := Lib.hid hve; have HRL := Lib.hid hr
  clear hx hc hve hr
  obtain ⟨r, hr⟩ : ∃ r, partL ps n = r := ⟨_, rfl⟩
  rw [hr]
  have HR := Lib.hid hr
  clear hr
  obtain ⟨m, hm⟩ : ∃ m, ps.length = m := ⟨_, rfl⟩
  have HVL : Hid (vs.length = ps.length) := hvl
  rw [hvl, hm]
  rw [hm] at hl
  have HM := Lib.hid hm
  clear hm hvl
  go_enter Try.func56, Try.ntmps56
  go_wp2_with fail
  go_loop [8] (fun k => ∃ i : Nat, i ≤ m ∧ k = .int .i64 i ∧ Hid (∀ j (hj : j < ps.length), j < i → ps[j].contains n = false)) (fun k => m - (intOf k).toNat)
  case atStart => exact ⟨0, Nat.zero_le _, rfl, fun j _ hj => absurd hj (by omega)⟩
  case round =>
    obtain ⟨i, hi, rfl, HJ⟩ := hrel
    by_cases hlt : i < m
    · have him : i < ps.length := by have := HM.out; omega
      have hiv : i < vs.length := by have := HVL.out; omega
      obtain ⟨b, o, rfl, hb, hcc⟩ := HC.out (by omega)
      have e0 := hcc i _ (List.getElem?_eq_getElem hiv)
      have HE := Lib.hid (HVE.out i hiv him)
      have hle := HRL.out ps[i] (List.getElem_mem _)
      have HQ1 : Hid (ps[i].contains n = true → r = (i : Int)) := fun e => by rw [← HR.out]; exact partL_at him e HJ.out
      have HQ2 : Hid (ps[i].contains n = false → ∀ j (hj : j < ps.length), j < i + 1 → ps[j].contains n = false) := fun e j hj hji => by
        rcases Nat.lt_or_ge j i with c | c
        · exact HJ.out j hj c
        · obtain rfl : j = i := by omega
          exact e
      clear hcc
      generalize ps[i] = z at *
      generalize vs[i] = u at *
      go_wp2_with fail
      refine (closure51 w D u z n bx HE.out (by omega) HX.out).mono ?_; rintro e w' ⟨rfl, rfl⟩
      cases hz : z.contains n with
      | true =>
        have HF := Lib.hid (HQ1.out hz)
        clear HQ1 HQ2 hz
        go_wp2_with fail
        go_ret
        exact ⟨ret_int HF.out.symm, rfl⟩
      | false =>
        have HN2 := Lib.hid (HQ2.out hz)
        clear HQ1 HQ2 hz
        go_wp2_with fail
        go_round
        case rel => exact ⟨i + 1, by omega, by go_num, HN2⟩
        case measure => simp [intOf]; omega
    · have HF : Hid (r = -1) := by
        show _ = _
        rw [← HR.out]
        exact partL_none fun j hj => HJ.out j hj (by have := HM.out; omega)
      go_wp2_with fail
      go_ret
      exact ⟨ret_int HF.out.symm, rfl⟩

set_option maxHeartbeats 1000000 in
theorem part_any (w : World) (D : Nat) (v : Value) (L : Lay) (n : Int) (h : IsGr w D v L) (hD : D ≤ w.heap.size) (hL : Fits L) :
    Calls Try.prog 46 #[v, .int .i64 n] w fun e w' => e = .returned (.int .i64 (partL L.parts n)) ∧ Below w.heap.size w w' := by
  have hb0 := (Below.refl w.heap.size w).alloc (Nat.le_refl _) (.cells #[.int .i64 n] 3)
  have hI := h.keep hb0 hD
  obtain ⟨g, vS, vQ, vP, rfl, hg⟩ := hI
  have f1 := hg.row.cell 2
  simp only [List.getElem?_toArray, List.getElem?_cons_zero, List.getElem?_cons_succ] at f1
  have HQ := Lib.hid hg.p
  have hq := hL.p
  have HQR := Lib.hid hL.r
  have HB0 := Lib.hid hb0
  have HX : Hid ((w.alloc (.cells #[.int .i64 n] 3)).cell? ⟨w.heap.size, 0, none⟩ = some (.int .i64 n)) := by show _ = _; simp
  clear hg h hb0 hL
  go_enter Try.func46, Try.ntmps46
  go_wp2_with fail
  refine (indexFunc50 _ D w.heap.size vP L.parts n HQ.out hq HQR.out HX.out).mono ?_; rintro e w1 ⟨rfl, rfl⟩
  go_wp2_with fail
  go_ret
  exact ⟨rfl, HB0.out⟩

end Go.Proofs.Ythnjilbfkfekhaa

namespace Go.Proofs.Ythnjilbfkfekhaa
open Go.RowKit Fl
set_option maxRecDepth 100000

theorem nearL_le (L : Lay) (s : Int) : (nearL L s).length ≤ 4 := by
  have := riseL_le (nearTo L s 2); have := nearTo_le L s 2
  show (riseL (nearTo L s 2)).length ≤ 4; omega

/-- Is a part another one? -/
def otherP (p x : Int) : Bool := !(x == p) && decide (0 ≤ x)
/-- The parts of some sections that are others. -/
def partsOf (L : Lay) (p : Int) (ns : List Int) : List Int := (ns.map (partL L.parts)).filter (otherP p)
def besTo (L : Lay) (p : Int) (ss : List Int) : List Int := ss.flatMap fun s => partsOf L p (nearL L s)
/-- All parts that join one. -/
def besideL (L : Lay) (p : Int) : List Int := if 0 ≤ p ∧ p < (L.parts.length : Int) then riseL (besTo L p (L.parts.getD p.toNat [])) else []

theorem partsOf_take (L : Lay) (p : Int) (ns : List Int) (j : Nat) (h : j < ns.length) : partsOf L p (ns.take (j + 1)) = partsOf L p (ns.take j) ++ (if otherP p (partL L.parts ns[j]) = true then [partL L.parts ns[j]] else []) := by
  unfold partsOf
  rw [List.take_succ_eq_append_getElem h, List.map_append, List.filter_append]
  congr 1
  simp only [List.map_cons, List.map_nil, List.filter_cons, List.filter_nil]
theorem partsOf_le (L : Lay) (p : Int) (ns : List Int) : (partsOf L p ns).length ≤ ns.length := by
  unfold partsOf
  exact Nat.le_trans (List.length_filter_le _ _) (by simp)
theorem besTo_take (L : Lay) (p : Int) (ss : List Int) (i : Nat) (h : i < ss.length) : besTo L p (ss.take (i + 1)) = besTo L p (ss.take i) ++ partsOf L p (nearL L ss[i]) := by
  unfold besTo
  rw [List.take_succ_eq_append_getElem h, List.flatMap_append]
  simp
theorem besTo_le (L : Lay) (p : Int) : ∀ ss : List Int, (besTo L p ss).length ≤ 4 * ss.length
  | [] => by simp [besTo]
  | s :: ss => by
    have h1 := besTo_le L p ss
    have h2 := partsOf_le L p (nearL L s)
    have h3 := nearL_le L s
    have e : besTo L p (s :: ss) = partsOf L p (nearL L s) ++ besTo L p ss := by simp [besTo]
    rw [e, List.length_append, List.length_cons]; omega

set_option maxHeartbeats 8000000 in
theorem beside_any (w : World) (D : Nat) (v : Value) (L : Lay) (p : Int) (h : IsGr w D v L) (hD : D ≤ w.heap.size) (hL : Fits L) :
    Calls Try.prog 33 #[v, .int .i64 p] w (RetOwn w.heap.size (besideL L p) w) := by
  have HI := Lib.hid h
  obtain ⟨g, vS, vQ, vP, rfl, hg⟩ := h
  have HL := Lib.hid hL
  have hpl := hL.p
  have f2 := hg.row.cell 2
  simp only [List.getElem?_toArray, List.getElem?_cons_zero, List.getElem?_cons_succ] at f2
  obtain ⟨vs, hv, hvl, hve⟩ := hg.p
  obtain ⟨Ap, cp, rfl, -, hvx⟩ := hv
  rw [hvl] at f2 hvx
  clear hg hL
  obtain ⟨i3, hi3, hz30, hz31, hz32⟩ := info_parts Try.info3n
  by_cases hp : 0 ≤ p ∧ p < (L.parts.length : Int)
  · obtain ⟨pn, rfl⟩ := Int.eq_ofNat_of_zero_le hp.1
    have hpn : pn < L.parts.length := by omega
    have HE : Hid (besideL L (pn : Int) = riseL (besTo L (pn : Int) L.parts[pn])) := by
      show _ = _
      unfold besideL
      rw [if_pos hp]
      simp [List.getD, hpn]
    generalize besideL L (pn : Int) = r at *
    obtain ⟨b, o, rfl, hb, hcc⟩ := hvx (by omega)
    have e0 := hcc pn _ (List.getElem?_eq_getElem (by omega))
    have HV := Lib.hid (hve pn (by omega) hpn)
    have hrl := HL.out.r L.parts[pn] (List.getElem_mem _)
    clear hvx hcc hve
    generalize L.parts[pn] = ss at *
    generalize vs[pn] = u at *
    clear hvl
    generalize L.parts.length = m at *
    obtain ⟨As, cs, rfl, -, -⟩ := id HV.out
    have hsl : (ivals ss).length = ss.length := by simp [ivals]
    rw [hsl] at HV e0
    obtain ⟨B0, hB0⟩ : ∃ n, n = w.heap.size := ⟨_, rfl⟩
    rw [← hB0]
    have HB0 := Lib.hid hB0
    have hB1 : B0 ≤ w.heap.size := by omega
    have hDB : D ≤ B0 := by omega
    clear hB0 hD hp hsl
    have hmp : ¬ m ≤ pn := by omega
    have hmi : ¬ (m : Int) ≤ (pn : Int) := by omega
    have hp0 : ¬ (pn : Int) < 0 := by omega
    go_enter Try.func33, Try.ntmps33
    go_wp2_with fail
    clear f2 e0
    go_loopw [5, 34] (fun t k wr => ∃ (i : Nat) (bs0 : List Int), i ≤ ss.length ∧ bs0.length ≤ 4 * i ∧ k = .int .i64 i ∧ Hid (bs0 = besTo L (pn : Int) (ss.take i) ∧ wr.ownsRow B0 3 1 t bs0.length (ivals bs0) ∧ Below B0 w wr)) (fun _ k _ => ss.length - (intOf k).toNat)
    case atStart => exact ⟨0, [], Nat.zero_le _, Nat.zero_le _, rfl, rfl, World.ownsRow_nil _ _ _ _, Below.refl _ _⟩
    case round =>
      obtain ⟨i, bs0, hi, hnl, rfl, HJ⟩ := hrel
      obtain ⟨A5, c5, hv5⟩ := own_slice HJ.out.2.1
      subst hv5
      by_cases hlt : i < ss.length
      · have HS : Hid (besTo L (pn : Int) (ss.take (i + 1)) = bs0 ++ partsOf L (pn : Int) (nearL L ss[i])) := by show _ = _; rw [besTo_take L (pn : Int) ss i hlt, HJ.out.1]
        obtain ⟨bs, os, hA, -, q0⟩ := (HV.out.below HJ.out.2.2 hDB).at (i := i) (u := .int .i64 ss[i]) (by simp [ivals, hlt])
        subst hA
        generalize ss[i] = x at *
        have hal := nearL_le L x
        go_wp2_with fail
        refine (near_any wr D _ L x (HI.out.keep HJ.out.2.2 hDB) (by have := HJ.out.2.2.size; omega) HL.out).mono ?_; rintro e w1 ⟨v1, rfl, ho1, hb1⟩
        obtain ⟨A1, c1, hv1⟩ := own_slice ho1
        subst hv1
        have HO1 := Lib.hid (own_below HJ.out.2.1 hb1)
        have HB1 : Hid (Below B0 w w1) := HJ.out.2.2.trans (hb1.mono (by have := HJ.out.2.2.size; omega))
        have HP1 : Hid (w1.ownsRow wr.heap.size 3 1 (.slice A1 (nearL L x).length c1) (nearL L x).length (ivals (nearL L x))) := ho1
        have HFR : Hid (∀ k, (Value.slice A1 (nearL L x).length c1).ownBlock = some k → (Value.slice A5 bs0.length c5).ownBlock ≠ some k) := fun k hk e => by
          have h1 := (ho1.lt k hk).1
          have h2 := (HJ.out.2.1.lt k e).2
          omega
        clear hb1 ho1 HJ q0
        generalize nearL L x = ns at *
        obtain ⟨wM, hwM⟩ : ∃ x, x = w1 := ⟨_, rfl⟩
        subst hwM
        obtain ⟨BN, hBN⟩ : ∃ n, n = wr.heap.size := ⟨_, rfl⟩
        rw [← hBN] at HP1
        clear hBN
        go_wp2_with fail
        go_loopw [5, 42] (fun t k wr => ∃ (j : Nat) (zs : List Int), j ≤ ns.length ∧ zs.length ≤ bs0.length + j ∧ k = .int .i64 j ∧ Hid (zs = bs0 ++ partsOf L (pn : Int) (ns.take j) ∧ wr.ownsRow B0 3 1 t zs.length (ivals zs) ∧ Below B0 w wr ∧ wr.ownsRow BN 3 1 (.slice A1 ns.length c1) ns.length (ivals ns) ∧ ∀ k, (Value.slice A1 ns.length c1).ownBlock = some k → t.ownBlock ≠ some k)) (fun _ k _ => ns.length - (intOf k).toNat)
        case atStart => exact ⟨0, bs0, Nat.zero_le _, Nat.le_refl _, rfl, by simp [partsOf], HO1.out, HB1.out, HP1.out, HFR.out⟩
        case round =>
          obtain ⟨j, zs, hj, hzl, rfl, HK⟩ := hrel
          obtain ⟨A6, c6, hv6⟩ := own_slice HK.out.2.1
          subst hv6
          by_cases hlt2 : j < ns.length
          · have HST : Hid (bs0 ++ partsOf L (pn : Int) (ns.take (j + 1)) = zs ++ (if otherP (pn : Int) (partL L.parts ns[j]) = true then [partL L.parts ns[j]] else [])) := by show _ = _; rw [partsOf_take L (pn : Int) ns j hlt2, HK.out.1, List.append_assoc]
            obtain ⟨bb, oo, hA, hbD, q0⟩ := (Rd.of_own HK.out.2.2.2.1).at (i := j) (u := .int .i64 ns[j]) (by simp [ivals, hlt2])
            subst hA
            generalize ns[j] = y at *
            go_wp2_with fail
            refine (part_any wr D _ L y (HI.out.keep HK.out.2.2.1 hDB) (by have := HK.out.2.2.1.size; omega) HL.out).mono ?_; rintro e w3 ⟨rfl, hb3⟩
            have HO3 := Lib.hid (own_below HK.out.2.1 hb3)
            have HB3 : Hid (Below B0 w w3) := HK.out.2.2.1.trans (hb3.mono (by have := HK.out.2.2.1.size; omega))
            have HP3 := Lib.hid (own_below HK.out.2.2.2.1 hb3)
            have HF3 := Lib.hid HK.out.2.2.2.2
            clear hb3 HK q0
            generalize partL L.parts y = z at *
            have HOT : Hid (otherP (pn : Int) z = (!(z == (pn : Int)) && decide (0 ≤ z))) := rfl
            cases ho : otherP (pn : Int) z with
            | true =>
              have HSN : Hid (bs0 ++ partsOf L (pn : Int) (ns.take (j + 1)) = zs ++ [z] ∧ ivals zs ++ [.int .i64 z] = ivals (zs ++ [z]) ∧ (zs ++ [z]).length = zs.length + 1) := by
                have h1 := HST.out
                rw [ho, if_pos rfl] at h1
                exact ⟨h1, ivals_snoc' _ _, by simp⟩
              have hoo : (!(z == (pn : Int)) && decide (0 ≤ z)) = true := by rw [← HOT.out]; exact ho
              rw [Bool.and_eq_true] at hoo
              have hz1 : ¬ z = (pn : Int) := by simpa using hoo.1
              have hz2 : 0 ≤ z := by simpa using hoo.2
              clear HST ho hoo HOT
              go_wp2_with (at_builtin; refine wpList_append_own_at _ rfl (.tmp 56) (.tmp 58) 45 rfl B0 3 i3 (.int .i64 0) 1 8 Try.underlying45 hi3 hz30 hz31 hz32 rfl (by decide) _ _ _ rfl (HO3.out.alloc _) ⟨w3.heap.size, 0, none⟩ 1 1 [.int .i64 z] rfl rfl (one_new w3 3 _) (one_cell rfl) (by unfold maxLen; omega) (by omega) (by have := HB3.out.size; simp; omega) ?_)
              intro v7 w7 hown7 hgrow7 _ hat7
              rw [HSN.out.2.1] at hown7
              have hnsl := fun k hk => ((HP3.out.lt k hk).2)
              have hba : Below B0 w (w3.alloc (.cells #[.int .i64 z] 3)) := HB3.out.alloc (by have := HB3.out.size; omega) _
              have HNX : Hid (zs ++ [z] = bs0 ++ partsOf L (pn : Int) (ns.take (j + 1)) ∧ w7.ownsRow B0 3 1 v7 (zs ++ [z]).length (ivals (zs ++ [z])) ∧ Below B0 w w7 ∧ w7.ownsRow BN 3 1 (.slice (some ⟨bb, oo, none⟩) ns.length c1) ns.length (ivals ns) ∧ ∀ k, (Value.slice (some ⟨bb, oo, none⟩) ns.length c1).ownBlock = some k → v7.ownBlock ≠ some k) := by
                refine ⟨HSN.out.1.symm, by rw [HSN.out.2.2]; exact hown7, hba.grown hgrow7 (by have := hba.size; omega) (fun kk hk => (HO3.out.lt kk hk).1), ?_, ?_⟩
                · refine (HP3.out.alloc _).kept hgrow7 ?_
                  right
                  intro e
                  cases hk : (Value.slice (some ⟨bb, oo, none⟩) ns.length c1).ownBlock with
                  | none => simp [Value.ownBlock] at hk
                  | some k => exact HF3.out k hk (by rw [← e]; exact hk)
                · intro k hk e
                  rcases hat7 with h | h
                  · exact HF3.out k hk (by rw [← h]; exact e)
                  · rw [h] at e
                    injection e with e
                    have := hnsl k hk
                    omega
              clear hown7 hgrow7 hat7 hnsl hba
              have hl7 := HSN.out.2.2
              go_wp2_with fail
              go_roundw
              case rel => exact ⟨j + 1, zs ++ [z], by omega, by omega, by go_num, HNX⟩
              case measure => simp [intOf]; omega
            | false =>
              have HSN : Hid (zs = bs0 ++ partsOf L (pn : Int) (ns.take (j + 1))) := by
                have h1 := HST.out
                rw [ho, if_neg (by decide), List.append_nil] at h1
                exact h1.symm
              have hoo : (!(z == (pn : Int)) && decide (0 ≤ z)) = false := by rw [← HOT.out]; exact ho
              clear HST ho HOT
              by_cases hz1 : z = (pn : Int)
              · subst hz1
                clear hoo
                go_wp2_with fail
                go_roundw
                case rel => exact ⟨j + 1, zs, by omega, by omega, by go_num, HSN.out, HO3.out, HB3.out, HP3.out, HF3.out⟩
                case measure => simp [intOf]; omega
              · have hz2 : ¬ 0 ≤ z := by
                  intro h
                  have h1 : (z == (pn : Int)) = false := by simpa using hz1
                  rw [h1, decide_eq_true h] at hoo
                  exact absurd hoo (by decide)
                clear hoo
                go_wp2_with fail
                go_roundw
                case rel => exact ⟨j + 1, zs, by omega, by omega, by go_num, HSN.out, HO3.out, HB3.out, HP3.out, HF3.out⟩
                case measure => simp [intOf]; omega
          · have HJE : Hid (zs = besTo L (pn : Int) (ss.take (i + 1))) := by
              have h1 := HK.out.1
              rw [List.take_of_length_le (by omega)] at h1
              show _ = _
              rw [HS.out]; exact h1
            have HK2 : Hid (wr.ownsRow B0 3 1 (.slice A6 zs.length c6) zs.length (ivals zs) ∧ Below B0 w wr) := ⟨HK.out.2.1, HK.out.2.2.1⟩
            clear HK
            go_wp2_with fail
            go_roundw
            case rel => exact ⟨i + 1, zs, by omega, by omega, by go_num, HJE.out, HK2.out.1, HK2.out.2⟩
            case measure => simp [intOf]; omega
      · have HIE : Hid (bs0 = besTo L (pn : Int) ss) := by
          have h1 := HJ.out.1
          rw [List.take_of_length_le (by omega)] at h1
          exact h1
        have HJ2 := Lib.hid HJ.out
        clear HJ
        go_wp2_with fail
        refine (eachOnce_any wr B0 _ bs0 HJ2.out.2.1 (by have := HJ2.out.2.2.size; omega) (by omega)).mono ?_; rintro e w8 ⟨v8, rfl, ho8, hb8⟩
        have HO8 := Lib.hid ho8
        have HB8 := Lib.hid (HJ2.out.2.2.trans hb8)
        clear ho8 hb8
        go_wp2_with fail
        go_ret
        rw [HE.out, ← HIE.out]
        exact ⟨_, rfl, HO8.out, HB8.out⟩
  · have HE : Hid (besideL L p = []) := by show _ = _; unfold besideL; rw [if_neg hp]
    generalize besideL L p = r at *
    clear hve hvx hvl
    generalize L.parts.length = m at *
    go_enter Try.func33, Try.ntmps33
    by_cases h1 : p < 0
    · go_wp2_with fail
      go_ret
      rw [HE.out]
      exact ⟨_, rfl, World.ownsRow_nil _ _ _ _, Below.refl _ _⟩
    · have h2 : (m : Int) ≤ p := by omega
      have h3 : 0 ≤ p := by omega
      go_wp2_with fail
      go_ret
      rw [HE.out]
      exact ⟨_, rfl, World.ownsRow_nil _ _ _ _, Below.refl _ _⟩

end Go.Proofs.Ythnjilbfkfekhaa
