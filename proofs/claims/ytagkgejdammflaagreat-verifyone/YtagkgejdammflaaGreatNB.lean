/- Contracts: way. Contracts: Path. -/
import Derived.Test.YtagkgejdammflaaGreatNA
import Derived.Test.YtagkgejdammflaaGreatWMath
import Derived.Deep.RegionHeld3
namespace Go.Proofs.YtagkgejdammflaaGreat
open Go.RowKit Fl
set_option maxRecDepth 100000

def ncells (xs : List (Int × Bool)) : List Value := xs.flatMap fun s => [.int .i64 s.1, .bool s.2]
theorem ncells_snoc (xs : List (Int × Bool)) (a : Int) (b : Bool) : ncells xs ++ [.int .i64 a, .bool b] = ncells (xs ++ [(a, b)]) := by simp [ncells]
theorem Tryz.info55n : (Tryz.prog.info? 143).map (fun i => (i.zero, i.size, i.bytes)) = some (some (.agg #[.int .i64 0, .bool false]), 2, 16) := by kernel_rfl

/-- What a step over a point needs. -/
def needL (L : Lay) (e : Int × Int) (n : Int) : List (Int × Bool) :=
  if 0 ≤ pointAtL L e then [(pointAtL L e, mustL (L.points.getD (pointAtL L e).toNat (0, 0, 0, 0)) e.1 n)] else []
/-- The needs of a way. -/
def wayL (L : Lay) : Int × Int → List Int → Option (List (Int × Bool))
  | _, [] => some []
  | e, n :: r => match inL (aroundL L e) n with
    | none => none
    | some i => (wayL L (n, 1 - ((aroundL L e).getD i (0, 0)).2) r).map (needL L e n ++ ·)
theorem wayL_none {L : Lay} {e : Int × Int} {n : Int} {r : List Int} (h : inL (aroundL L e) n = none) : wayL L e (n :: r) = none := by rw [wayL, h]
theorem wayL_some {L : Lay} {e : Int × Int} {n : Int} {r : List Int} {i : Nat} (h : inL (aroundL L e) n = some i) : wayL L e (n :: r) = (wayL L (n, 1 - ((aroundL L e).getD i (0, 0)).2) r).map (needL L e n ++ ·) := by rw [wayL, h]

def RetWay (B : Nat) (r : Option (List (Int × Bool))) (w : World) (e : Ending) (w' : World) : Prop :=
  ∃ v, e = .returned (.tuple #[v, .bool r.isSome]) ∧ w'.ownsRow B 143 2 v (r.getD []).length (ncells (r.getD [])) ∧ Below B w w'

set_option maxHeartbeats 8000000 in
theorem way_any (w : World) (D : Nat) (v : Value) (L : Lay) (s k : Int) (A : Option Addr) (c : Nat) (ns : List Int) (h : IsGr w D v L) (hD : D ≤ w.heap.size) (hL : Fits L) (hn : Rd w w.heap.size (.slice A ns.length c) (ivals ns)) (hnl : ns.length ≤ 1000) :
    Calls Tryz.prog 85 #[v, .agg #[.int .i64 s, .int .i64 k], .slice A ns.length c] w (RetWay w.heap.size (wayL L (s, k) ns) w) := by
  have hb0 := (Below.refl w.heap.size w).alloc (Nat.le_refl _) (.cells #[.int .i64 s, .int .i64 k] 60)
  have HI := Lib.hid h
  have HB0 := Lib.hid hb0
  have HRW := Lib.hid (Row.new w 60 #[.int .i64 s, .int .i64 k])
  have HNS := Lib.hid hn
  obtain ⟨g, vS, vQ, vP, rfl, -⟩ := h
  have HL := Lib.hid hL
  clear hb0 hL hn
  obtain ⟨r, hr⟩ : ∃ r, wayL L (s, k) ns = r := ⟨_, rfl⟩
  rw [hr]
  have HR : Hid (r = (wayL L (s, k) (ns.drop 0)).map ([] ++ ·)) := by show _ = _; rw [← hr]; simp
  clear hr
  obtain ⟨i5, hi5, hz50, hz51, hz52⟩ := info_parts Tryz.info55n
  go_enter Tryz.func85, Tryz.ntmps85
  go_upto_region 2 with (fail)
  obtain ⟨n0, hn0⟩ : ∃ n, n = w.heap.size := ⟨_, rfl⟩
  obtain ⟨B0, hB0⟩ : ∃ n, n = w.heap.size := ⟨_, rfl⟩
  rw [← hB0] at HB0 HNS
  rw [← hn0] at HRW ⊢
  have HN : Hid (n0 = w.heap.size ∧ B0 = n0 ∧ D ≤ B0) := ⟨hn0, by omega, by omega⟩
  have hDB : D ≤ B0 := by omega
  clear hn0 hB0 hD
  generalize w.alloc (.cells #[.int .i64 s, .int .i64 k] 60) = W0 at *
  go_wp2_with fail
  go_loopw [8, 16] (fun t k9 wr => ∃ (j : Nat) (acc : List (Int × Bool)) (e1 e2 : Int), j ≤ ns.length ∧ acc.length ≤ j ∧ k9 = .int .i64 j ∧ Hid (r = (wayL L (e1, e2) (ns.drop j)).map (acc ++ ·) ∧ wr.ownsRow B0 143 2 t acc.length (ncells acc) ∧ Below B0 w wr ∧ Row wr n0 60 #[.int .i64 e1, .int .i64 e2])) (fun _ k9 _ => ns.length - (intOf k9).toNat)
  case atStart => exact ⟨0, [], s, k, Nat.zero_le _, Nat.zero_le _, rfl, HR.out, World.ownsRow_nil _ _ _ _, HB0.out, HRW.out⟩
  case round =>
    obtain ⟨j, acc, e1, e2, hj, hacc, rfl, HJ⟩ := hrel
    obtain ⟨At, ct, hvt⟩ := own_slice HJ.out.2.1
    subst hvt
    by_cases hlt : j < ns.length
    · have HDR : Hid (ns.drop j = ns[j] :: ns.drop (j + 1)) := List.drop_eq_getElem_cons hlt
      obtain ⟨bn, on, hA, -, q0⟩ := (HNS.out.below HJ.out.2.2.1 (Nat.le_refl _)).at (i := j) (u := .int .i64 ns[j]) (by simp [ivals, hlt])
      subst hA
      generalize ns[j] = x at *
      have hba := (Below.refl wr.heap.size wr).alloc (Nat.le_refl _) (.cells #[.int .i64 x] 3)
      have HB1 : Hid (Below B0 w (wr.alloc (.cells #[.int .i64 x] 3))) := HJ.out.2.2.1.trans (hba.mono (by have := HJ.out.2.2.1.size; have := HN.out; omega))
      have HO1 := Lib.hid (own_below HJ.out.2.1 hba)
      have HE1 := Lib.hid (HJ.out.2.2.2.alloc (.cells #[.int .i64 x] 3))
      have HX1 := Lib.hid (Row.new wr 3 #[.int .i64 x])
      have HR0 : Hid (r = (wayL L (e1, e2) (x :: ns.drop (j + 1))).map (acc ++ ·)) := by show _ = _; rw [HJ.out.1, HDR.out]
      clear hba HJ HDR
      go_upto_region 5 with (fail)
      obtain ⟨nx, hnx⟩ : ∃ n, n = wr.heap.size := ⟨_, rfl⟩
      rw [← hnx] at HX1 ⊢
      clear hnx q0
      generalize wr.alloc (.cells #[.int .i64 x] 3) = w1 at *
      have f0 := HE1.out.cell 0; have f1 := HE1.out.cell 1
      simp only [List.getElem?_toArray, List.getElem?_cons_zero, List.getElem?_cons_succ] at f0 f1
      go_wp2_with fail
      refine (around_any w1 D _ L e1 e2 (HI.out.keep HB1.out hDB) (by have := HB1.out.size; have := HN.out; omega) HL.out).mono ?_; rintro e w2 ⟨v2, rfl, hp2, hb2⟩
      obtain ⟨A2, c2, hv2, -⟩ := id hp2
      subst hv2
      have HB2 : Hid (Below B0 w w2) := HB1.out.trans (hb2.mono (by have := HB1.out.size; have := HN.out; omega))
      have HO2 := Lib.hid (own_below HO1.out hb2)
      have HE2 := Lib.hid (Below.row hb2 HE1.out HE1.out.lt)
      have HX2 := Lib.hid (Below.row hb2 HX1.out HX1.out.lt)
      have HP2 := Lib.hid hp2
      have hal := aroundL_le L (e1, e2)
      have HSD := Lib.hid (aroundL_snd L (e1, e2))
      have HW0 : Hid (inL (aroundL L (e1, e2)) x = none → r = none) := fun h0 => by rw [HR0.out, wayL_none h0]; rfl
      have HW1 : Hid (∀ i, inL (aroundL L (e1, e2)) x = some i → r = (wayL L (x, 1 - ((aroundL L (e1, e2)).getD i (0, 0)).2) (ns.drop (j + 1))).map ((acc ++ needL L (e1, e2) x) ++ ·)) := fun i h0 => by
        rw [HR0.out, wayL_some h0, Option.map_map]
        congr 1
        funext z; simp
      clear hb2 hp2 f0 f1 HB1 HO1 HE1 HX1 HR0
      generalize aroundL L (e1, e2) = es at *
      have x0 := HX2.out.cell 0
      simp only [List.getElem?_toArray, List.getElem?_cons_zero] at x0
      go_wp2_with fail
      refine (indexEnds59 w2 w2.heap.size nx _ es x HP2.out (Nat.le_refl _) (by omega) x0 HX2.out.lt).mono ?_; rintro e w3 ⟨rfl, hb3⟩
      have HB3 : Hid (Below B0 w w3) := HB2.out.trans (hb3.mono (by have := HB2.out.size; have := HN.out; omega))
      have HO3 := Lib.hid (own_below HO2.out hb3)
      have HE3 := Lib.hid (Below.row hb3 HE2.out HE2.out.lt)
      have HX3 := Lib.hid (Below.row hb3 HX2.out HX2.out.lt)
      have HP3 := Lib.hid (HP2.out.up hb3)
      clear hb3 x0 HB2 HO2 HE2 HX2 HP2
      cases hin : inL es x with
      | none =>
        have HRN := Lib.hid (HW0.out hin)
        clear HW0 HW1 hin
        simp only [idxI]
        go_wp2_with fail
        go_ret2
        rw [HRN.out]
        exact ⟨_, rfl, World.ownsRow_nil _ _ _ _, by rw [← HN.out.1, ← HN.out.2.1]; exact HB3.out⟩
      | some i =>
        have hilt := inL_lt hin
        have HW := Lib.hid (HW1.out i hin)
        have hgd : es.getD i (0, 0) = es[i] := by simp [List.getD, hilt]
        rw [hgd] at HW
        have hsd := HSD.out es[i] (List.getElem_mem _)
        clear HW0 HW1 hin hgd
        obtain ⟨z, hzi⟩ : ∃ z, es[i] = z := ⟨_, rfl⟩
        rw [hzi] at HW hsd
        obtain ⟨z0, z1⟩ := z
        simp only [idxI] at HW hsd ⊢
        have hii : ¬ (i : Int) < 0 := by omega
        have f0 := HE3.out.cell 0; have f1 := HE3.out.cell 1
        simp only [List.getElem?_toArray, List.getElem?_cons_zero, List.getElem?_cons_succ] at f0 f1
        go_wp2_with fail
        refine (pointAt_any w3 D _ L e1 e2 (HI.out.keep HB3.out hDB) (by have := HB3.out.size; have := HN.out; omega) HL.out).mono ?_; rintro e w4 ⟨rfl, hb4⟩
        have HB4 : Hid (Below B0 w w4) := HB3.out.trans (hb4.mono (by have := HB3.out.size; have := HN.out; omega))
        have HO4 := Lib.hid (own_below HO3.out hb4)
        have HE4 := Lib.hid (Below.row hb4 HE3.out HE3.out.lt)
        have HX4 := Lib.hid (Below.row hb4 HX3.out HX3.out.lt)
        have HP4 := Lib.hid (HP3.out.up hb4)
        clear hb4 f0 f1 HB3 HO3 HE3 HX3 HP3
        by_cases hp : 0 ≤ pointAtL L (e1, e2)
        · obtain ⟨q, hq, hql⟩ := pointAtL_lt hp
          have hqg : L.points.getD q (0, 0, 0, 0) = L.points[q] := by simp [List.getD, hql]
          have HQ0 : Hid (r = (wayL L (x, 1 - z1) (ns.drop (j + 1))).map ((acc ++ [((q : Int), mustL L.points[q] e1 x)]) ++ ·)) := by
            show _ = _
            rw [HW.out]
            unfold needL
            rw [if_pos hp, hq]
            simp only [Int.toNat_natCast, hqg]
          rw [hq]
          have hqi : ¬ (q : Int) < 0 := by omega
          have hq0 : (0 : Int) ≤ (q : Int) := by omega
          clear HW hp hq hqg
          have f0 := HE4.out.cell 0; have f1 := HE4.out.cell 1; have x0 := HX4.out.cell 0
          simp only [List.getElem?_toArray, List.getElem?_cons_zero, List.getElem?_cons_succ] at f0 f1 x0
          go_wp2_with fail
          refine (must_any w4 D _ L q e1 x (HI.out.keep HB4.out hDB) HL.out hql).mono ?_; rintro e w5 ⟨rfl, hb5⟩
          generalize mustL L.points[q] e1 x = mb at *
          have HB5 : Hid (Below B0 w w5) := HB4.out.trans (hb5.mono (by have := HB4.out.size; have := HN.out; omega))
          have HO5 := Lib.hid (own_below HO4.out hb5)
          have HE5 := Lib.hid (Below.row hb5 HE4.out HE4.out.lt)
          have HX5 := Lib.hid (Below.row hb5 HX4.out HX4.out.lt)
          have HP5 := Lib.hid (HP4.out.up hb5)
          clear hb5 f0 f1 x0 HB4 HO4 HE4 HX4 HP4
          have HSN : Hid (ncells acc ++ [.int .i64 (q : Int), .bool mb] = ncells (acc ++ [((q : Int), mb)]) ∧ (acc ++ [((q : Int), mb)]).length = acc.length + 1) := ⟨ncells_snoc acc _ _, by simp⟩
          go_wp2_with (at_builtin; refine wpList_append_own _ rfl (.tmp 33) (.tmp 42) 105 rfl B0 143 i5 (.agg #[.int .i64 0, .bool false]) 2 16 Tryz.underlying105 hi5 hz50 hz51 hz52 rfl (by decide) _ _ _ rfl (HO5.out.alloc _) ⟨w5.heap.size, 0, none⟩ 1 1 [.int .i64 (q : Int), .bool mb] rfl rfl (row_new w5 143 _) (by intro u hu; simp at hu; rcases hu with rfl | rfl <;> rfl) (by unfold maxLen; omega) (by omega) (by have := HB5.out.size; have := HN.out; simp; omega) ?_)
          intro v7 w7 hown7 hgrow7 _
          rw [HSN.out.1] at hown7
          have hba : Below B0 w (w5.alloc (.cells #[.int .i64 (q : Int), .bool mb] 143)) := HB5.out.alloc (by have := HB5.out.size; have := HN.out; omega) _
          have HB7 : Hid (Below B0 w w7) := hba.grown hgrow7 (by have := hba.size; have := HN.out; omega) (fun kk hk => (HO5.out.lt kk hk).1)
          have HE7 : Hid (Row w7 n0 60 #[.int .i64 e1, .int .i64 e2]) := (HE5.out.alloc _).grown hgrow7 (own_ne HO5.out HE5.out (by decide))
          have HX7 : Hid (Row w7 nx 3 #[.int .i64 x]) := (HX5.out.alloc _).grown hgrow7 (own_ne HO5.out HX5.out (by decide))
          have HP7 : Hid (Prs w7 w5.heap.size (.slice A2 es.length c2) es) := (HP5.out.mono (Nat.le_refl _) (fun kk hk => ((Below.refl w5.heap.size w5).alloc (Nat.le_refl _) (.cells #[.int .i64 (q : Int), .bool mb] 143)).block kk hk)).grown (HO5.out.alloc _) (by decide) hgrow7
          have HO7 : Hid (w7.ownsRow B0 143 2 v7 (acc ++ [((q : Int), mb)]).length (ncells (acc ++ [((q : Int), mb)]))) := by rw [HSN.out.2]; exact hown7
          obtain ⟨A8, c8, hv8⟩ := own_slice hown7
          subst hv8
          have HQ := Lib.hid HQ0.out
          clear hown7 hgrow7 hba HB5 HO5 HE5 HX5 HP5 HQ0 hql
          obtain ⟨b2, o2, hA2, -, g0, g1⟩ := HP7.out.at i hilt
          subst hA2
          rw [hzi] at g0 g1
          simp only at g0 g1
          have x0 := HX7.out.cell 0
          simp only [List.getElem?_toArray, List.getElem?_cons_zero] at x0
          go_upto_region 12 with (fail)
          go_still_tail 8, (by kernel_rfl)
          change wpList _ _ _ _ _ w7.drew
          have HB8 : Hid (Below B0 w w7.drew) := HB7.out.drew
          have HE8 : Hid (Row w7.drew n0 60 #[.int .i64 e1, .int .i64 e2]) := HE7.out
          have HO8 : Hid (w7.drew.ownsRow B0 143 2 (.slice A8 (acc.length + 1) c8) (acc ++ [((q : Int), mb)]).length (ncells (acc ++ [((q : Int), mb)]))) := HO7.out
          clear g0 g1 x0 HB7 HE7 HO7 HX7 HP7
          generalize w7.drew = wd at *
          have f0 := HE8.out.cell 0; have f1 := HE8.out.cell 1; have f2 := HE8.out.frozen 0; have f3 := HE8.out.frozen 1
          simp only [List.getElem?_toArray, List.getElem?_cons_zero, List.getElem?_cons_succ] at f0 f1
          have rs : Row ((wd.setCell ⟨n0, 0, none⟩ (.int .i64 x)).setCell ⟨n0, 1, none⟩ (.int .i64 (1 - z1))) n0 60 #[.int .i64 x, .int .i64 (1 - z1)] := (HE8.out.set 0 (.int .i64 x)).set 1 (.int .i64 (1 - z1))
          have HNX : Hid (r = (wayL L (x, 1 - z1) (ns.drop (j + 1))).map ((acc ++ [((q : Int), mb)]) ++ ·) ∧ ((wd.setCell ⟨n0, 0, none⟩ (.int .i64 x)).setCell ⟨n0, 1, none⟩ (.int .i64 (1 - z1))).ownsRow B0 143 2 (.slice A8 (acc.length + 1) c8) (acc ++ [((q : Int), mb)]).length (ncells (acc ++ [((q : Int), mb)])) ∧ Below B0 w ((wd.setCell ⟨n0, 0, none⟩ (.int .i64 x)).setCell ⟨n0, 1, none⟩ (.int .i64 (1 - z1))) ∧ Row ((wd.setCell ⟨n0, 0, none⟩ (.int .i64 x)).setCell ⟨n0, 1, none⟩ (.int .i64 (1 - z1))) n0 60 #[.int .i64 x, .int .i64 (1 - z1)]) := by
            have hfar := own_ne HO8.out HE8.out (by decide)
            exact ⟨HQ.out, own_far (own_far HO8.out (fun e => hfar e.symm) _) (fun e => hfar e.symm) _, (HB8.out.setCell (p := ⟨n0, 0, none⟩) (by have := HN.out; simp; omega) _).setCell (p := ⟨n0, 1, none⟩) (by have := HN.out; simp; omega) _, rs⟩
          clear rs HB8 HE8 HO8 HQ
          go_wp2_with fail
          go_roundw
          case rel => exact ⟨j + 1, acc ++ [((q : Int), mb)], x, 1 - z1, by omega, by simp; omega, by go_num, HNX⟩
          case measure => simp [intOf]; omega
        · have HQ : Hid (r = (wayL L (x, 1 - z1) (ns.drop (j + 1))).map (acc ++ ·)) := by
            show _ = _
            rw [HW.out]
            unfold needL
            rw [if_neg hp, List.append_nil]
          have hpn : ¬ (0 : Int) ≤ pointAtL L (e1, e2) := hp
          clear HW
          generalize pointAtL L (e1, e2) = pp at *
          obtain ⟨b2, o2, hA2, -, g0, g1⟩ := HP4.out.at i hilt
          subst hA2
          rw [hzi] at g0 g1
          simp only at g0 g1
          have x0 := HX4.out.cell 0
          simp only [List.getElem?_toArray, List.getElem?_cons_zero] at x0
          go_upto_region 12 with (fail)
          go_still_tail 8, (by kernel_rfl)
          change wpList _ _ _ _ _ w4.drew
          have HB8 : Hid (Below B0 w w4.drew) := HB4.out.drew
          have HE8 : Hid (Row w4.drew n0 60 #[.int .i64 e1, .int .i64 e2]) := HE4.out
          have HO8 : Hid (w4.drew.ownsRow B0 143 2 (.slice At acc.length ct) (acc).length (ncells (acc))) := HO4.out
          clear g0 g1 x0 HB4 HE4 HO4 HX4 HP4
          generalize w4.drew = wd at *
          have f0 := HE8.out.cell 0; have f1 := HE8.out.cell 1; have f2 := HE8.out.frozen 0; have f3 := HE8.out.frozen 1
          simp only [List.getElem?_toArray, List.getElem?_cons_zero, List.getElem?_cons_succ] at f0 f1
          have rs : Row ((wd.setCell ⟨n0, 0, none⟩ (.int .i64 x)).setCell ⟨n0, 1, none⟩ (.int .i64 (1 - z1))) n0 60 #[.int .i64 x, .int .i64 (1 - z1)] := (HE8.out.set 0 (.int .i64 x)).set 1 (.int .i64 (1 - z1))
          have HNX : Hid (r = (wayL L (x, 1 - z1) (ns.drop (j + 1))).map ((acc) ++ ·) ∧ ((wd.setCell ⟨n0, 0, none⟩ (.int .i64 x)).setCell ⟨n0, 1, none⟩ (.int .i64 (1 - z1))).ownsRow B0 143 2 (.slice At acc.length ct) (acc).length (ncells (acc)) ∧ Below B0 w ((wd.setCell ⟨n0, 0, none⟩ (.int .i64 x)).setCell ⟨n0, 1, none⟩ (.int .i64 (1 - z1))) ∧ Row ((wd.setCell ⟨n0, 0, none⟩ (.int .i64 x)).setCell ⟨n0, 1, none⟩ (.int .i64 (1 - z1))) n0 60 #[.int .i64 x, .int .i64 (1 - z1)]) := by
            have hfar := own_ne HO8.out HE8.out (by decide)
            exact ⟨HQ.out, own_far (own_far HO8.out (fun e => hfar e.symm) _) (fun e => hfar e.symm) _, (HB8.out.setCell (p := ⟨n0, 0, none⟩) (by have := HN.out; simp; omega) _).setCell (p := ⟨n0, 1, none⟩) (by have := HN.out; simp; omega) _, rs⟩
          clear rs HB8 HE8 HO8 HQ
          go_wp2_with fail
          go_roundw
          case rel => exact ⟨j + 1, acc, x, 1 - z1, by omega, by omega, by go_num, HNX⟩
          case measure => simp [intOf]; omega
    · have HRE : Hid (r = some acc) := by
        have h1 := HJ.out.1
        rw [List.drop_eq_nil_of_le (by omega), wayL] at h1
        show _ = _
        rw [h1]; simp
      go_wp2_with fail
      go_ret2
      rw [HRE.out]
      exact ⟨_, rfl, by rw [← HN.out.1, ← HN.out.2.1]; exact HJ.out.2.1, by rw [← HN.out.1, ← HN.out.2.1]; exact HJ.out.2.2.1⟩

end Go.Proofs.YtagkgejdammflaaGreat

namespace Go.Proofs.YtagkgejdammflaaGreat
open Go.RowKit Fl
set_option maxRecDepth 100000

def ways (L : Lay) (a : Int) (r : List Int) : Option (List (Int × Bool)) := match wayL L (a, 0) r with
  | some x => some x
  | none => wayL L (a, 1) r
/-- The needs of a path. -/
def pathL (L : Lay) (p : List Int) : Option (List (Int × Bool)) := if p.length < 2 ∨ (riseL p).length < p.length then none else ways L (p.getD 0 0) (p.drop 1)

set_option maxHeartbeats 8000000 in
theorem path_any (w : World) (D : Nat) (v : Value) (L : Lay) (A : Option Addr) (c : Nat) (p : List Int) (h : IsGr w D v L) (hD : D ≤ w.heap.size) (hL : Fits L) (hp : Rd w w.heap.size (.slice A p.length c) (ivals p)) (hpl : p.length ≤ 1000) :
    Calls Tryz.prog 69 #[v, .slice A p.length c] w (RetWay w.heap.size (pathL L p) w) := by
  have HI := Lib.hid h
  obtain ⟨g, vS, vQ, vP, rfl, -⟩ := h
  have HL := Lib.hid hL
  have HP := Lib.hid hp
  clear hL
  obtain ⟨B0, hB0⟩ : ∃ n, n = w.heap.size := ⟨_, rfl⟩
  rw [← hB0]
  have HB0 := Lib.hid hB0
  have hDB : D ≤ B0 := by omega
  clear hB0 hD
  by_cases h2 : p.length < 2
  · have HE : Hid (pathL L p = none) := by show _ = _; unfold pathL; rw [if_pos (Or.inl h2)]
    generalize pathL L p = r at *
    generalize p.length = m at *
    clear hp HP
    have h2i : (m : Int) < 2 := by omega
    go_enter Tryz.func69, Tryz.ntmps69
    go_wp2_with fail
    go_ret2
    rw [HE.out]
    exact ⟨_, rfl, World.ownsRow_nil _ _ _ _, Below.refl _ _⟩
  · obtain ⟨A', c', hv, ⟨h0, hcl⟩, hx⟩ := hp
    injection hv with e1 e2 e3
    subst e1 e3
    have hvl : (ivals p).length = p.length := by simp [ivals]
    rw [hvl] at hcl hx
    obtain ⟨b, o, rfl, hb, hcc⟩ := hx (by omega)
    obtain ⟨a, rest, rfl⟩ : ∃ a rest, p = a :: rest := by cases p with | nil => simp at h2 | cons a r => exact ⟨a, r, rfl⟩
    have q0 : w.cell? ⟨b, o, none⟩ = some (.int .i64 a) := hcc 0 _ (by simp [ivals])
    have HQ : Hid (∀ j u, (ivals rest)[j]? = some u → w.cell? ⟨b, o + 1 + j, none⟩ = some u) := fun j u hu => by
      have := hcc (j + 1) u (by simpa [ivals] using hu)
      rw [show o + 1 + j = o + (j + 1) by omega]; exact this
    have HQ0 := Lib.hid q0
    have HBL : Hid (b < B0) := by have := HB0.out; show b < B0; omega
    clear q0 hcc hx h0 hvl hb e2
    obtain ⟨m, hm⟩ : ∃ m, (a :: rest).length = m := ⟨_, rfl⟩
    have HM : Hid (rest.length + 1 = m) := by rw [← hm]; rfl
    have HRS : Hid ((riseL (a :: rest)).length < m → pathL L (a :: rest) = none) := fun h => by unfold pathL; rw [if_pos (Or.inr (by omega))]
    have HRW : Hid (¬ (riseL (a :: rest)).length < m → pathL L (a :: rest) = ways L a rest) := fun h => by
      unfold pathL
      rw [if_neg (by omega)]; rfl
    rw [hm] at HP h2 hpl hcl ⊢
    have h2i : ¬ (m : Int) < 2 := by omega
    generalize pathL L (a :: rest) = r at *
    have hml : (a :: rest).length ≤ 1000 := by omega
    clear hm
    go_enter Tryz.func69, Tryz.ntmps69
    go_wp2_with fail
    refine (clone38 w _ _ (a :: rest) HP.out (by omega)).mono ?_; rintro e w1 ⟨v1, rfl, ho1, hb1⟩
    obtain ⟨A1, c1, hv1⟩ := own_slice ho1
    subst hv1
    have HO1 := Lib.hid ho1
    have HB1 : Hid (Below B0 w w1) := by have := HB0.out; rw [this]; exact hb1
    clear ho1 hb1
    go_wp2_with fail
    refine (eachOnce_any w1 w.heap.size _ (a :: rest) HO1.out (by have := HB1.out.size; omega) (by omega)).mono ?_; rintro e w2 ⟨v2, rfl, ho2, hb2⟩
    obtain ⟨A2, c2, hv2⟩ := own_slice ho2
    subst hv2
    have HB2 : Hid (Below B0 w w2) := by have := HB0.out; rw [this]; rw [this] at HB1; exact HB1.out.trans hb2
    have hrl := riseL_le (a :: rest)
    clear ho2 hb2 HB1 HO1 HP
    generalize (riseL (a :: rest)).length = rl at *
    by_cases hr : rl < m
    · have HE := Lib.hid (HRS.out hr)
      clear HRS HRW
      go_wp2_with fail
      go_ret2
      rw [HE.out]
      exact ⟨_, rfl, World.ownsRow_nil _ _ _ _, HB2.out⟩
    · have HE := Lib.hid (HRW.out hr)
      have hri : ¬ (rl : Int) < (m : Int) := by omega
      have hc1 : ¬ c = 1 := by omega
      have h1m : (1 : Int) ≤ (m : Int) := by omega
      have h0m : (0 : Int) < (m : Int) := by omega
      have h0n : 0 < m := by omega
      have h1n : 1 ≤ m := by omega
      have hz : ¬ m = 0 := by omega
      clear HRS HRW
      have HWAY : Hid (∀ (W : World) (k : Int), Below B0 w W → Calls Tryz.prog 85 #[.pointer (some ⟨g, 0, none⟩), .agg #[.int .i64 a, .int .i64 k], .slice (some ⟨b, o + 1, none⟩) (m - 1) (c - 1)] W (RetWay W.heap.size (wayL L (a, k) rest) W)) := fun W k hW => by
        have e : m - 1 = rest.length := by have := HM.out; omega
        rw [e]
        refine way_any W D _ L a k (some ⟨b, o + 1, none⟩) (c - 1) rest (HI.out.keep hW hDB) (by have := hW.size; have := HB0.out; omega) HL.out ?_ (by have := HM.out; omega)
        refine ⟨some ⟨b, o + 1, none⟩, c - 1, by simp [ivals], ⟨(fun e => by cases e), by simp [ivals]; have := HM.out; omega⟩, fun _ => ⟨b, o + 1, rfl, by have := hW.size; have := HB0.out; have := HBL.out; omega, fun j u hu => ?_⟩⟩
        exact (hW.cell (p := ⟨b, o + 1 + j, none⟩) HBL.out).trans (HQ.out j u hu)
      go_wp2_with fail
      go_loopw [21] (fun k wr => ∃ i : Nat, i ≤ 2 ∧ k = .int .i64 i ∧ Hid ((0 < i → wayL L (a, 0) rest = none) ∧ (1 < i → wayL L (a, 1) rest = none)) ∧ Hid (Below B0 w wr)) (fun k _ => 2 - (intOf k).toNat)
      case atStart => exact ⟨0, Nat.zero_le _, rfl, ⟨fun h => absurd h (by omega), fun h => absurd h (by omega)⟩, HB2⟩
      case round =>
        obtain ⟨i, hi, rfl, HNO, HB3⟩ := hrel
        by_cases hlt : i < 2
        · have HWS : Hid (∀ xs, wayL L (a, (i : Int)) rest = some xs → ways L a rest = some xs) := fun xs hx => by
            unfold ways
            rcases Nat.lt_or_ge 0 i with c | c
            · have e : i = 1 := by omega
              subst e
              rw [HNO.out.1 (by omega)]; exact hx
            · have e : i = 0 := by omega
              subst e
              have hx' : wayL L (a, 0) rest = some xs := hx
              rw [hx']
          have HWN : Hid (wayL L (a, (i : Int)) rest = none → (0 < i + 1 → wayL L (a, 0) rest = none) ∧ (1 < i + 1 → wayL L (a, 1) rest = none)) := fun hx => by
            rcases Nat.lt_or_ge 0 i with c | c
            · have e : i = 1 := by omega
              subst e
              exact ⟨fun _ => HNO.out.1 (by omega), fun _ => hx⟩
            · have e : i = 0 := by omega
              subst e
              exact ⟨fun _ => hx, fun h => absurd h (by omega)⟩
          have d1 : wr.drew.cell? ⟨b, o, none⟩ = some (.int .i64 a) := (HB3.out.drew.cell (p := ⟨b, o, none⟩) HBL.out).trans HQ0.out
          have HBD : Hid (Below B0 w wr.drew) := HB3.out.drew
          have HSZ : Hid (B0 ≤ wr.drew.heap.size) := by have := HB3.out.size; have := HB0.out; show B0 ≤ wr.heap.size; omega
          have HSB : Hid (b < wr.drew.heap.size) := Nat.lt_of_lt_of_le HBL.out HSZ.out
          clear HNO
          go_upto_region 6 with (fail)
          go_region_held3 (fun w' => w'.cell? ⟨b, o, none⟩ = some (.int .i64 a)) (first | assumption | go_keep) (first | (go_at_call 85; (with_reducible refine (HWAY.out wr.drew (i : Int) HBD.out).mono ?_); rintro e w3 ⟨v3, rfl, ho3, hb3⟩; have d2 : w3.cell? ⟨b, o, none⟩ = some (.int .i64 a) := (hb3.cell (p := ⟨b, o, none⟩) HSB.out).trans d1; have HO3 := Lib.hid ho3; have HB4 : Hid (Below B0 w w3) := HBD.out.trans (hb3.mono HSZ.out); clear ho3 hb3))
          clear d1 d2
          cases hw : wayL L (a, (i : Int)) rest with
          | some xs =>
            have HES : Hid (r = some xs) := by show _ = _; rw [HE.out]; exact HWS.out xs hw
            rw [hw] at HO3
            clear hw HWS HWN
            simp only [Option.isSome_some, Option.getD_some] at HO3 ⊢
            go_wp2_with fail
            go_ret2
            rw [HES.out]
            exact ⟨_, rfl, own_base HO3.out HSZ.out, HB4.out⟩
          | none =>
            have HN2 := Lib.hid (HWN.out hw)
            clear hw HWS HWN HO3
            simp only [Option.isSome_none]
            go_wp2_with fail
            go_roundw
            case rel => exact ⟨i + 1, by omega, by go_num, HN2, HB4⟩
            case measure => simp [intOf]; omega
        · have HES : Hid (r = none) := by show _ = _; rw [HE.out]; unfold ways; rw [HNO.out.1 (by omega), HNO.out.2 (by omega)]
          go_wp2_with fail
          go_ret2
          rw [HES.out]
          exact ⟨_, rfl, World.ownsRow_nil _ _ _ _, HB3.out⟩

end Go.Proofs.YtagkgejdammflaaGreat
