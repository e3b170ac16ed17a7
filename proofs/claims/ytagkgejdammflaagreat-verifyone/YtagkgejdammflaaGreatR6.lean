/- Contract: the document's way. -/
import Derived.Test.YtagkgejdammflaaGreatRise
import Derived.Test.YtagkgejdammflaaGreatNB
import Derived.Test.YtagkgejdammflaaGreatBMath
namespace Go.Proofs.YtagkgejdammflaaGreat
open Go.RowKit Fl
set_option maxRecDepth 100000

theorem Tryz.info90n : (Tryz.prog.info? 124).map (fun i => (i.zero, i.size, i.bytes)) = some (some (.agg #[.int .i64 0, .bool false]), 2, 16) := by kernel_rfl
/-- Must a point stand to the right? As the document has it. -/
def mustR (p : Int × Int × Int × Int) (f t : Int) : Bool := p.2.2.2 == (if t = p.2.1 then f else t)
def needR (L : Lay) (e : Int × Int) (n : Int) : List (Int × Bool) :=
  if 0 ≤ pointAtL L e then [(pointAtL L e, mustR (L.points.getD (pointAtL L e).toNat (0, 0, 0, 0)) e.1 n)] else []
def wayR (L : Lay) : Int × Int → List Int → Option (List (Int × Bool))
  | _, [] => some []
  | e, n :: r => match inL (aroundL L e) n with
    | none => none
    | some i => (wayR L (n, 1 - ((aroundL L e).getD i (0, 0)).2) r).map (needR L e n ++ ·)
theorem wayR_none {L : Lay} {e : Int × Int} {n : Int} {r : List Int} (h : inL (aroundL L e) n = none) : wayR L e (n :: r) = none := by rw [wayR, h]
theorem wayR_some {L : Lay} {e : Int × Int} {n : Int} {r : List Int} {i : Nat} (h : inL (aroundL L e) n = some i) : wayR L e (n :: r) = (wayR L (n, 1 - ((aroundL L e).getD i (0, 0)).2) r).map (needR L e n ++ ·) := by rw [wayR, h]
theorem around_node {L : Lay} {e : Int × Int} (h : 0 < (aroundL L e).length) : ∃ n, nodeL L.secs e = some n := by
  cases hn : nodeL L.secs e with
  | some n => exact ⟨n, rfl⟩
  | none => unfold aroundL at h; rw [hn] at h; simp at h
def RetWayR (B : Nat) (r : Option (List (Int × Bool))) (w : World) (e : Ending) (w' : World) : Prop :=
  ∃ v, e = .returned (.tuple #[v, .bool r.isSome]) ∧ w'.ownsRow B 124 2 v (r.getD []).length (ncells (r.getD [])) ∧ Below B w w'
theorem LayV.point_at {W : World} {D n0 n1 n2 n3 n4 c0 c1 c2 c3 c4 : Nat} {A0 A1 A2 A3 A4 : Option Addr} {t0 t1 t2 t3 t4 : Int} {L : Lay}
    (h : LayV W D (.agg #[.slice A0 n0 c0, .slice A1 n1 c1, .slice A2 n2 c2, .slice A3 n3 c3, .slice A4 n4 c4, .int .i64 t0, .int .i64 t1, .int .i64 t2, .int .i64 t3, .int .i64 t4]) L) (i : Nat) (hi : i < L.points.length) :
    ∃ b o, A3 = some ⟨b, o, none⟩ ∧ W.cell? ⟨b, o + i * 4, none⟩ = some (.int .i64 L.points[i].1) ∧ W.cell? ⟨b, o + i * 4 + 1, none⟩ = some (.int .i64 L.points[i].2.1) ∧ W.cell? ⟨b, o + i * 4 + 2, none⟩ = some (.int .i64 L.points[i].2.2.1) ∧ W.cell? ⟨b, o + i * 4 + 3, none⟩ = some (.int .i64 L.points[i].2.2.2) := by
  obtain ⟨vN, vS, vP, vQ, vR, ps, hv, hd⟩ := h
  injection hv with hv
  have e : vQ = .slice A3 n3 c3 := by
    have := congrArg (fun x : Array Value => x[3]?) hv
    simpa using this.symm
  subst e
  obtain ⟨b, o, h1, _, h2⟩ := hd.q.at i hi
  exact ⟨b, o, h1, h2⟩

set_option maxHeartbeats 8000000 in
theorem refWay_any (w : World) (D : Nat) (v : Value) (L : Lay) (s k : Int) (A : Option Addr) (c : Nat) (ns : List Int) (h : LayV w D v L) (hD : D ≤ w.heap.size) (hL : Fits L) (hn : Rd w w.heap.size (.slice A ns.length c) (ivals ns)) (hnl : ns.length ≤ 1000) :
    Calls Tryz.prog 72 #[v, .agg #[.int .i64 s, .int .i64 k], .slice A ns.length c] w (RetWayR w.heap.size (wayR L (s, k) ns) w) := by
  have HV := Lib.hid h
  obtain ⟨A0, k0, c0, A1, k1, c1, A2, k2, c2', A3, k3, c3, A4, k4, c4, t0, t1, t2, t3, t4, rfl, -, -, -, hk3⟩ := h.lens
  have HK3 := Lib.hid hk3
  have HB0 : Hid (Below w.heap.size w ((w.alloc (.cells #[.slice A0 k0 c0, .slice A1 k1 c1, .slice A2 k2 c2', .slice A3 k3 c3, .slice A4 k4 c4, .int .i64 t0, .int .i64 t1, .int .i64 t2, .int .i64 t3, .int .i64 t4] 33)).alloc (.cells #[.int .i64 s, .int .i64 k] 60))) := below2 w _ _
  have HRL0 := Lib.hid ((Row.new w 33 #[.slice A0 k0 c0, .slice A1 k1 c1, .slice A2 k2 c2', .slice A3 k3 c3, .slice A4 k4 c4, .int .i64 t0, .int .i64 t1, .int .i64 t2, .int .i64 t3, .int .i64 t4]).alloc (.cells #[.int .i64 s, .int .i64 k] 60))
  have hr1 := Row.new (w.alloc (.cells #[.slice A0 k0 c0, .slice A1 k1 c1, .slice A2 k2 c2', .slice A3 k3 c3, .slice A4 k4 c4, .int .i64 t0, .int .i64 t1, .int .i64 t2, .int .i64 t3, .int .i64 t4] 33)) 60 #[.int .i64 s, .int .i64 k]
  rw [World.size_alloc] at hr1
  have HRE0 := Lib.hid hr1
  have HNS := Lib.hid hn
  have HL := Lib.hid hL
  clear hr1 hn hk3 hL
  obtain ⟨r, hr⟩ : ∃ r, wayR L (s, k) ns = r := ⟨_, rfl⟩
  rw [hr]
  have HR : Hid (r = (wayR L (s, k) (ns.drop 0)).map ([] ++ ·)) := by show _ = _; rw [← hr]; simp
  clear hr
  obtain ⟨i5, hi5, hz50, hz51, hz52⟩ := info_parts Tryz.info90n
  go_enter Tryz.func72, Tryz.ntmps72
  go_upto_region 2 with (fail)
  obtain ⟨n0, hn0⟩ : ∃ n, n = w.heap.size := ⟨_, rfl⟩
  obtain ⟨n1, hn1⟩ : ∃ n, n = n0 + 1 := ⟨_, rfl⟩
  obtain ⟨B0, hB0⟩ : ∃ n, n = w.heap.size := ⟨_, rfl⟩
  rw [← hB0] at HB0 HNS
  rw [← hn0] at HRL0 HRE0 ⊢
  rw [← hn1] at HRE0 ⊢
  have HN : Hid (n0 = w.heap.size ∧ B0 = n0 ∧ D ≤ B0 ∧ n1 = n0 + 1) := ⟨hn0, by omega, by omega, hn1⟩
  have hDB : D ≤ B0 := by omega
  clear hn0 hB0 hn1 hD
  generalize (w.alloc (.cells #[.slice A0 k0 c0, .slice A1 k1 c1, .slice A2 k2 c2', .slice A3 k3 c3, .slice A4 k4 c4, .int .i64 t0, .int .i64 t1, .int .i64 t2, .int .i64 t3, .int .i64 t4] 33)).alloc (.cells #[.int .i64 s, .int .i64 k] 60) = W0 at *
  go_wp2_with fail
  go_loopw [8, 9] (fun t k9 wr => ∃ (j : Nat) (acc : List (Int × Bool)) (e1 e2 : Int), j ≤ ns.length ∧ acc.length ≤ j ∧ k9 = .int .i64 j ∧ Hid (r = (wayR L (e1, e2) (ns.drop j)).map (acc ++ ·) ∧ wr.ownsRow B0 124 2 t acc.length (ncells acc) ∧ Below B0 w wr ∧ Row wr n0 33 #[.slice A0 k0 c0, .slice A1 k1 c1, .slice A2 k2 c2', .slice A3 k3 c3, .slice A4 k4 c4, .int .i64 t0, .int .i64 t1, .int .i64 t2, .int .i64 t3, .int .i64 t4] ∧ Row wr n1 60 #[.int .i64 e1, .int .i64 e2])) (fun _ k9 _ => ns.length - (intOf k9).toNat)
  case atStart => exact ⟨0, [], s, k, Nat.zero_le _, Nat.zero_le _, rfl, HR.out, World.ownsRow_nil _ _ _ _, HB0.out, HRL0.out, HRE0.out⟩
  case round =>
    obtain ⟨j, acc, e1, e2, hj, hacc, rfl, HJ⟩ := hrel
    obtain ⟨At, ct, hvt⟩ := own_slice HJ.out.2.1
    subst hvt
    by_cases hlt : j < ns.length
    · have HDR : Hid (ns.drop j = ns[j] :: ns.drop (j + 1)) := List.drop_eq_getElem_cons hlt
      obtain ⟨bn, on, hA, hbn, q0⟩ := HNS.out.at (i := j) (u := .int .i64 ns[j]) (by simp [ivals, hlt])
      subst hA
      have HBN := Lib.hid hbn
      generalize ns[j] = x at *
      have HX0 := Lib.hid q0
      have HR0 : Hid (r = (wayR L (e1, e2) (x :: ns.drop (j + 1))).map (acc ++ ·)) := by show _ = _; rw [HJ.out.1, HDR.out]
      have l0 := HJ.out.2.2.2.1.cell 0; have l1 := HJ.out.2.2.2.1.cell 1; have l2 := HJ.out.2.2.2.1.cell 2; have l3 := HJ.out.2.2.2.1.cell 3; have l4 := HJ.out.2.2.2.1.cell 4; have l5 := HJ.out.2.2.2.1.cell 5; have l6 := HJ.out.2.2.2.1.cell 6; have l7 := HJ.out.2.2.2.1.cell 7; have l8 := HJ.out.2.2.2.1.cell 8; have l9 := HJ.out.2.2.2.1.cell 9
      have f0 := HJ.out.2.2.2.2.cell 0; have f1 := HJ.out.2.2.2.2.cell 1
      simp only [List.getElem?_toArray, List.getElem?_cons_zero, List.getElem?_cons_succ] at f0 f1 l0 l1 l2 l3 l4 l5 l6 l7 l8 l9
      clear q0 HDR hbn
      obtain ⟨wJ, hwJ⟩ : ∃ x, x = wr := ⟨_, rfl⟩
      subst hwJ
      go_wp2_with fail
      refine (refAround_any wJ D _ L e1 e2 (HV.out.keep HJ.out.2.2.1 hDB) (by have := HJ.out.2.2.1.size; have := HN.out; omega) HL.out).mono ?_; rintro e w2 ⟨v2, rfl, hp2, hb2⟩
      obtain ⟨A2', c2, hv2, -⟩ := id hp2
      subst hv2
      have HS2 : Hid (w2.ownsRow B0 124 2 (.slice At acc.length ct) (acc).length (ncells (acc)) ∧ Below B0 w w2 ∧ Row w2 n0 33 #[.slice A0 k0 c0, .slice A1 k1 c1, .slice A2 k2 c2', .slice A3 k3 c3, .slice A4 k4 c4, .int .i64 t0, .int .i64 t1, .int .i64 t2, .int .i64 t3, .int .i64 t4] ∧ Row w2 n1 60 #[.int .i64 e1, .int .i64 e2]) := ⟨own_below HJ.out.2.1 hb2, HJ.out.2.2.1.trans (hb2.mono (by have := HJ.out.2.2.1.size; have := HN.out; omega)), Below.row hb2 HJ.out.2.2.2.1 HJ.out.2.2.2.1.lt, Below.row hb2 HJ.out.2.2.2.2 HJ.out.2.2.2.2.lt⟩
      have HP2 := Lib.hid hp2
      have hal := aroundL_le L (e1, e2)
      have HSD := Lib.hid (aroundL_snd L (e1, e2))
      have HND : Hid (0 < (aroundL L (e1, e2)).length → ∃ n, nodeL L.secs (e1, e2) = some n) := fun h => around_node h
      have HW0 : Hid (inL (aroundL L (e1, e2)) x = none → r = none) := fun h0 => by rw [HR0.out, wayR_none h0]; rfl
      have HW1 : Hid (∀ i, inL (aroundL L (e1, e2)) x = some i → r = (wayR L (x, 1 - ((aroundL L (e1, e2)).getD i (0, 0)).2) (ns.drop (j + 1))).map ((acc ++ needR L (e1, e2) x) ++ ·)) := fun i h0 => by
        rw [HR0.out, wayR_some h0, Option.map_map]
        congr 1
        funext z; simp
      clear hb2 hp2 f0 f1 l0 l1 l2 l3 l4 l5 l6 l7 l8 l9 HJ HR0
      generalize aroundL L (e1, e2) = es at *
      obtain ⟨DE, hDE⟩ : ∃ n, n = w2.heap.size := ⟨_, rfl⟩
      rw [← hDE] at HP2
      have HDE2 : Hid (DE ≤ w2.heap.size) := by show DE ≤ _; omega
      clear hDE
      go_wp2_with fail
      go_loopw [11] (fun k9 wr => ∃ q : Nat, q ≤ es.length ∧ k9 = .int .i64 q ∧ Hid (∀ j (hj : j < es.length), j < q → es[j].1 ≠ x) ∧ Hid ((wr.ownsRow B0 124 2 (.slice At acc.length ct) (acc).length (ncells (acc)) ∧ Below B0 w wr ∧ Row wr n0 33 #[.slice A0 k0 c0, .slice A1 k1 c1, .slice A2 k2 c2', .slice A3 k3 c3, .slice A4 k4 c4, .int .i64 t0, .int .i64 t1, .int .i64 t2, .int .i64 t3, .int .i64 t4] ∧ Row wr n1 60 #[.int .i64 e1, .int .i64 e2]) ∧ Prs wr DE (.slice A2' es.length c2) es ∧ DE ≤ wr.heap.size)) (fun k9 _ => es.length - (intOf k9).toNat)
      case atStart => exact ⟨0, Nat.zero_le _, rfl, (fun j _ h => absurd h (by omega)), HS2.out, HP2.out, HDE2.out⟩
      case round =>
        obtain ⟨q, hq1, rfl, HNO, HQS⟩ := hrel
        by_cases hq : q < es.length
        · obtain ⟨be, oe, hA2, -, g0, g1⟩ := HQS.out.2.1.at q hq
          subst hA2
          obtain ⟨z, hzi⟩ : ∃ z, es[q] = z := ⟨_, rfl⟩
          rw [hzi] at g0 g1
          have hsd := HSD.out es[q] (List.getElem_mem _)
          rw [hzi] at hsd
          obtain ⟨z0, z1⟩ := z
          simp only at g0 g1 hsd
          have x0 : wr.cell? ⟨bn, on + j, none⟩ = some (.int .i64 x) := (HQS.out.1.2.1.cell (p := ⟨bn, on + j, none⟩) HBN.out).trans HX0.out
          have hdq : decide ((q : Int) < (es.length : Int)) = true := decide_eq_true (by omega)
          have hqi : ¬ (q : Int) = (es.length : Int) := by omega
          have hqn : ¬ q = es.length := by omega
          by_cases hzx : z0 = x
          · have HIN : Hid (inL es x = some q) := inL_at hq (by rw [hzi]; exact hzx) HNO.out
            have HW := Lib.hid (HW1.out q HIN.out)
            have hgd : es.getD q (0, 0) = (z0, z1) := by rw [← hzi]; simp [List.getD, hq]
            rw [hgd] at HW
            obtain ⟨nd, hnd⟩ := HND.out (by omega)
            subst hzx
            have hbz : (z0 == z0) = true := by simp
            clear HW0 HW1 HIN hgd HNO HND
            go_upto_region 7 with (fail)
            go_quiet (fail)
            have HF : Hid (∀ n, ((wr.drewN n).ownsRow B0 124 2 (.slice At acc.length ct) (acc).length (ncells (acc)) ∧ Below B0 w (wr.drewN n) ∧ Row (wr.drewN n) n0 33 #[.slice A0 k0 c0, .slice A1 k1 c1, .slice A2 k2 c2', .slice A3 k3 c3, .slice A4 k4 c4, .int .i64 t0, .int .i64 t1, .int .i64 t2, .int .i64 t3, .int .i64 t4] ∧ Row (wr.drewN n) n1 60 #[.int .i64 e1, .int .i64 e2]) ∧ Prs (wr.drewN n) DE (.slice (some ⟨be, oe, none⟩) es.length c2) es ∧ DE ≤ (wr.drewN n).heap.size) := fun n => ⟨⟨HQS.out.1.1, Below.drewN HQS.out.1.2.1 n, HQS.out.1.2.2.1, HQS.out.1.2.2.2⟩, HQS.out.2.1.drewN n, HQS.out.2.2⟩
            clear HQS g0 g1 x0 hdq hbz
            go_upto_region 11 with (fail)
            have HU3 := Lib.hid (HF.out nq)
            generalize wr.drewN nq = w3 at *
            clear HF
            have l0 := HU3.out.1.2.2.1.cell 0; have l1 := HU3.out.1.2.2.1.cell 1; have l2 := HU3.out.1.2.2.1.cell 2; have l3 := HU3.out.1.2.2.1.cell 3; have l4 := HU3.out.1.2.2.1.cell 4; have l5 := HU3.out.1.2.2.1.cell 5; have l6 := HU3.out.1.2.2.1.cell 6; have l7 := HU3.out.1.2.2.1.cell 7; have l8 := HU3.out.1.2.2.1.cell 8; have l9 := HU3.out.1.2.2.1.cell 9
            have f0 := HU3.out.1.2.2.2.cell 0; have f1 := HU3.out.1.2.2.2.cell 1
            simp only [List.getElem?_toArray, List.getElem?_cons_zero, List.getElem?_cons_succ] at f0 f1 l0 l1 l2 l3 l4 l5 l6 l7 l8 l9
            go_wp2_with fail
            refine (refNode_any w3 D _ L e1 e2 (HV.out.keep HU3.out.1.2.1 hDB) (by have := HU3.out.1.2.1.size; have := HN.out; omega) HL.out).mono ?_; rintro e w4 ⟨rfl, hb4⟩
            have HU4 : Hid ((w4.ownsRow B0 124 2 (.slice At acc.length ct) (acc).length (ncells (acc)) ∧ Below B0 w w4 ∧ Row w4 n0 33 #[.slice A0 k0 c0, .slice A1 k1 c1, .slice A2 k2 c2', .slice A3 k3 c3, .slice A4 k4 c4, .int .i64 t0, .int .i64 t1, .int .i64 t2, .int .i64 t3, .int .i64 t4] ∧ Row w4 n1 60 #[.int .i64 e1, .int .i64 e2]) ∧ Prs w4 DE (.slice (some ⟨be, oe, none⟩) es.length c2) es ∧ DE ≤ w4.heap.size) := ⟨⟨own_below HU3.out.1.1 hb4, HU3.out.1.2.1.trans (hb4.mono (by have := HU3.out.1.2.1.size; have := HN.out; omega)), Below.row hb4 HU3.out.1.2.2.1 HU3.out.1.2.2.1.lt, Below.row hb4 HU3.out.1.2.2.2 HU3.out.1.2.2.2.lt⟩, HU3.out.2.1.mono (Nat.le_refl _) (fun kk hk => hb4.block kk (Nat.lt_of_lt_of_le hk HU3.out.2.2)), Nat.le_trans HU3.out.2.2 hb4.size⟩
            rw [hnd]
            simp only [Option.getD_some, Option.isSome_some]
            have HPA : Hid (pointAtL L (e1, e2) = pointL L.points nd) := by show _ = _; unfold pointAtL; rw [hnd]
            clear hb4 HU3 f0 f1 l0 l1 l2 l3 l4 l5 l6 l7 l8 l9 hnd
            have l0 := HU4.out.1.2.2.1.cell 0; have l1 := HU4.out.1.2.2.1.cell 1; have l2 := HU4.out.1.2.2.1.cell 2; have l3 := HU4.out.1.2.2.1.cell 3; have l4 := HU4.out.1.2.2.1.cell 4; have l5 := HU4.out.1.2.2.1.cell 5; have l6 := HU4.out.1.2.2.1.cell 6; have l7 := HU4.out.1.2.2.1.cell 7; have l8 := HU4.out.1.2.2.1.cell 8; have l9 := HU4.out.1.2.2.1.cell 9
            simp only [List.getElem?_toArray, List.getElem?_cons_zero, List.getElem?_cons_succ] at l0 l1 l2 l3 l4 l5 l6 l7 l8 l9
            go_wp2_with fail
            refine (refPoint_any w4 D _ L nd (HV.out.keep HU4.out.1.2.1 hDB) (by have := HU4.out.1.2.1.size; have := HN.out; omega) HL.out).mono ?_; rintro e w5 ⟨rfl, hb5⟩
            have HU : Hid ((w5.ownsRow B0 124 2 (.slice At acc.length ct) (acc).length (ncells (acc)) ∧ Below B0 w w5 ∧ Row w5 n0 33 #[.slice A0 k0 c0, .slice A1 k1 c1, .slice A2 k2 c2', .slice A3 k3 c3, .slice A4 k4 c4, .int .i64 t0, .int .i64 t1, .int .i64 t2, .int .i64 t3, .int .i64 t4] ∧ Row w5 n1 60 #[.int .i64 e1, .int .i64 e2]) ∧ Prs w5 DE (.slice (some ⟨be, oe, none⟩) es.length c2) es) := ⟨⟨own_below HU4.out.1.1 hb5, HU4.out.1.2.1.trans (hb5.mono (by have := HU4.out.1.2.1.size; have := HN.out; omega)), Below.row hb5 HU4.out.1.2.2.1 HU4.out.1.2.2.1.lt, Below.row hb5 HU4.out.1.2.2.2 HU4.out.1.2.2.2.lt⟩, HU4.out.2.1.mono (Nat.le_refl _) (fun kk hk => hb5.block kk (Nat.lt_of_lt_of_le hk HU4.out.2.2))⟩
            have HDE : Hid (DE ≤ w5.heap.size) := Nat.le_trans HU4.out.2.2 hb5.size
            clear hb5 HU4 l0 l1 l2 l3 l4 l5 l6 l7 l8 l9
            rw [← HPA.out]
            by_cases hp : 0 ≤ pointAtL L (e1, e2)
            · obtain ⟨pi, hpi, hpl⟩ := pointAtL_lt hp
              have hqg : L.points.getD pi (0, 0, 0, 0) = L.points[pi] := by simp [List.getD, hpl]
              have HQ0 : Hid (r = (wayR L (z0, 1 - z1) (ns.drop (j + 1))).map ((acc ++ [((pi : Int), mustR L.points[pi] e1 z0)]) ++ ·)) := by
                show _ = _
                rw [HW.out]
                unfold needR
                rw [if_pos hp, hpi]
                simp only [Int.toNat_natCast, hqg]
              rw [hpi]
              obtain ⟨bq, oq, hA3, p0, p1, p2, p3⟩ := (HV.out.keep HU.out.1.2.1 hDB).point_at pi hpl
              subst hA3
              have hpk : pi < k3 := by have := HK3.out; omega
              have hpc : k3 ≤ 100 := by have := HK3.out; have := HL.out.q; omega
              have hpn : ¬ (pi : Int) < 0 := by omega
              have hp0 : (0 : Int) ≤ (pi : Int) := by omega
              generalize L.points[pi] = y at *
              obtain ⟨y0, y1, y2, y3⟩ := y
              simp only at p0 p1 p2 p3
              clear HW hp hpi hqg HPA hpl
              by_cases hxy : z0 = y1
              · have hxb : (z0 == y1) = true := by simpa using hxy
                obtain ⟨mb, hmb⟩ : ∃ b, (y3 == e1) = b := ⟨_, rfl⟩
                have HQ : Hid (r = (wayR L (z0, 1 - z1) (ns.drop (j + 1))).map ((acc ++ [((pi : Int), mb)]) ++ ·)) := by
                  show _ = _
                  rw [HQ0.out]
                  have e : mustR (y0, y1, y2, y3) e1 z0 = mb := by unfold mustR; rw [if_pos hxy]; exact hmb
                  rw [e]
                clear hxy
                have HSN : Hid (ncells acc ++ [.int .i64 (pi : Int), .bool mb] = ncells (acc ++ [((pi : Int), mb)]) ∧ (acc ++ [((pi : Int), mb)]).length = acc.length + 1) := ⟨ncells_snoc acc _ _, by simp⟩
                have l3 := HU.out.1.2.2.1.cell 3; have f0 := HU.out.1.2.2.2.cell 0
                simp only [List.getElem?_toArray, List.getElem?_cons_zero, List.getElem?_cons_succ] at l3 f0
                have x0 : w5.cell? ⟨bn, on + j, none⟩ = some (.int .i64 z0) := (HU.out.1.2.1.cell (p := ⟨bn, on + j, none⟩) HBN.out).trans HX0.out
                go_wp2_with (at_builtin; refine wpList_append_own _ rfl (.tmp 72) (.tmp 83) 93 rfl B0 124 i5 (.agg #[.int .i64 0, .bool false]) 2 16 Tryz.underlying93 hi5 hz50 hz51 hz52 rfl (by decide) _ _ _ rfl (HU.out.1.1.alloc _) ⟨w5.heap.size, 0, none⟩ 1 1 [.int .i64 (pi : Int), .bool mb] rfl rfl (row_new w5 124 _) (by intro u hu; simp at hu; rcases hu with rfl | rfl <;> rfl) (by unfold maxLen; omega) (by omega) (by have := HU.out.1.2.1.size; have := HN.out; simp; omega) ?_)
                intro v7 w7 hown7 hgrow7 _
                rw [HSN.out.1] at hown7
                have hba : Below B0 w (w5.alloc (.cells #[.int .i64 (pi : Int), .bool mb] 124)) := HU.out.1.2.1.alloc (by have := HU.out.1.2.1.size; have := HN.out; omega) _
                obtain ⟨A8, c8, hv8⟩ := own_slice hown7
                subst hv8
                have HU7 : Hid ((w7.ownsRow B0 124 2 (.slice A8 (acc.length + 1) c8) (acc ++ [((pi : Int), mb)]).length (ncells (acc ++ [((pi : Int), mb)])) ∧ Below B0 w w7 ∧ Row w7 n0 33 #[.slice A0 k0 c0, .slice A1 k1 c1, .slice A2 k2 c2', .slice (some ⟨bq, oq, none⟩) k3 c3, .slice A4 k4 c4, .int .i64 t0, .int .i64 t1, .int .i64 t2, .int .i64 t3, .int .i64 t4] ∧ Row w7 n1 60 #[.int .i64 e1, .int .i64 e2]) ∧ Prs w7 DE (.slice (some ⟨be, oe, none⟩) es.length c2) es) := by
                  refine ⟨⟨by rw [HSN.out.2]; exact hown7, hba.grown hgrow7 (by have := hba.size; have := HN.out; omega) (fun kk hk => (HU.out.1.1.lt kk hk).1), (HU.out.1.2.2.1.alloc _).grown hgrow7 (own_ne HU.out.1.1 HU.out.1.2.2.1 (by decide)), (HU.out.1.2.2.2.alloc _).grown hgrow7 (own_ne HU.out.1.1 HU.out.1.2.2.2 (by decide))⟩, ?_⟩
                  exact (HU.out.2.mono (Nat.le_refl _) (fun kk hk => ((Below.refl w5.heap.size w5).alloc (Nat.le_refl _) (.cells #[.int .i64 (pi : Int), .bool mb] 124)).block kk (Nat.lt_of_lt_of_le hk HDE.out))).grown (HU.out.1.1.alloc _) (by decide) hgrow7
                clear hown7 hgrow7 hba HU x0 l3 f0 HQ0 p0 p1 p2 p3 hmb
                have g1 : w7.cell? ⟨be, oe + q * 2 + 1, none⟩ = some (.int .i64 z1) := by
                  obtain ⟨b2, o2, hA2, -, -, h2⟩ := HU7.out.2.at q hq
                  injection hA2 with hA2
                  injection hA2 with ha hb
                  subst ha hb
                  rw [hzi] at h2
                  exact h2
                have x0 : w7.cell? ⟨bn, on + j, none⟩ = some (.int .i64 z0) := (HU7.out.1.2.1.cell (p := ⟨bn, on + j, none⟩) HBN.out).trans HX0.out
                go_upto_region 18 with (fail)
                go_still_tail 11, (by kernel_rfl)
                change wpList _ _ _ _ _ w7.drew
                have HD8 : Hid (w7.drew.ownsRow B0 124 2 (.slice A8 (acc.length + 1) c8) (acc ++ [((pi : Int), mb)]).length (ncells (acc ++ [((pi : Int), mb)])) ∧ Below B0 w w7.drew ∧ Row w7.drew n0 33 #[.slice A0 k0 c0, .slice A1 k1 c1, .slice A2 k2 c2', .slice (some ⟨bq, oq, none⟩) k3 c3, .slice A4 k4 c4, .int .i64 t0, .int .i64 t1, .int .i64 t2, .int .i64 t3, .int .i64 t4] ∧ Row w7.drew n1 60 #[.int .i64 e1, .int .i64 e2]) := ⟨HU7.out.1.1, HU7.out.1.2.1.drew, HU7.out.1.2.2.1, HU7.out.1.2.2.2⟩
                clear g1 x0 HU7
                generalize w7.drew = wd at *
                have f0 := HD8.out.2.2.2.cell 0; have f1 := HD8.out.2.2.2.cell 1; have f2 := HD8.out.2.2.2.frozen 0; have f3 := HD8.out.2.2.2.frozen 1
                simp only [List.getElem?_toArray, List.getElem?_cons_zero, List.getElem?_cons_succ] at f0 f1
                have rs : Row ((wd.setCell ⟨n1, 0, none⟩ (.int .i64 z0)).setCell ⟨n1, 1, none⟩ (.int .i64 (1 - z1))) n1 60 #[.int .i64 z0, .int .i64 (1 - z1)] := (HD8.out.2.2.2.set 0 (.int .i64 z0)).set 1 (.int .i64 (1 - z1))
                have HNX : Hid (r = (wayR L (z0, 1 - z1) (ns.drop (j + 1))).map ((acc ++ [((pi : Int), mb)]) ++ ·) ∧ ((wd.setCell ⟨n1, 0, none⟩ (.int .i64 z0)).setCell ⟨n1, 1, none⟩ (.int .i64 (1 - z1))).ownsRow B0 124 2 (.slice A8 (acc.length + 1) c8) (acc ++ [((pi : Int), mb)]).length (ncells (acc ++ [((pi : Int), mb)])) ∧ Below B0 w ((wd.setCell ⟨n1, 0, none⟩ (.int .i64 z0)).setCell ⟨n1, 1, none⟩ (.int .i64 (1 - z1))) ∧ Row ((wd.setCell ⟨n1, 0, none⟩ (.int .i64 z0)).setCell ⟨n1, 1, none⟩ (.int .i64 (1 - z1))) n0 33 #[.slice A0 k0 c0, .slice A1 k1 c1, .slice A2 k2 c2', .slice (some ⟨bq, oq, none⟩) k3 c3, .slice A4 k4 c4, .int .i64 t0, .int .i64 t1, .int .i64 t2, .int .i64 t3, .int .i64 t4] ∧ Row ((wd.setCell ⟨n1, 0, none⟩ (.int .i64 z0)).setCell ⟨n1, 1, none⟩ (.int .i64 (1 - z1))) n1 60 #[.int .i64 z0, .int .i64 (1 - z1)]) := by
                  have hfar := own_ne HD8.out.1 HD8.out.2.2.2 (by decide)
                  have hn := HN.out
                  exact ⟨HQ.out, own_far (own_far HD8.out.1 (fun e => hfar e.symm) _) (fun e => hfar e.symm) _, (HD8.out.2.1.setCell (p := ⟨n1, 0, none⟩) (by simp; omega) _).setCell (p := ⟨n1, 1, none⟩) (by simp; omega) _, (HD8.out.2.2.1.far (p := ⟨n1, 0, none⟩) (by simp; omega) _).far (p := ⟨n1, 1, none⟩) (by simp; omega) _, rs⟩
                clear rs HD8 HQ
                go_wp2_with fail
                go_roundw
                case rel => exact ⟨j + 1, acc ++ [((pi : Int), mb)], z0, 1 - z1, by omega, by simp; omega, by go_num, HNX⟩
                case measure => simp [intOf]; omega
              · have hxb : (z0 == y1) = false := by simpa using hxy
                obtain ⟨mb, hmb⟩ : ∃ b, (y3 == z0) = b := ⟨_, rfl⟩
                have HQ : Hid (r = (wayR L (z0, 1 - z1) (ns.drop (j + 1))).map ((acc ++ [((pi : Int), mb)]) ++ ·)) := by
                  show _ = _
                  rw [HQ0.out]
                  have e : mustR (y0, y1, y2, y3) e1 z0 = mb := by unfold mustR; rw [if_neg hxy]; exact hmb
                  rw [e]
                clear hxy
                have HSN : Hid (ncells acc ++ [.int .i64 (pi : Int), .bool mb] = ncells (acc ++ [((pi : Int), mb)]) ∧ (acc ++ [((pi : Int), mb)]).length = acc.length + 1) := ⟨ncells_snoc acc _ _, by simp⟩
                have l3 := HU.out.1.2.2.1.cell 3; have f0 := HU.out.1.2.2.2.cell 0
                simp only [List.getElem?_toArray, List.getElem?_cons_zero, List.getElem?_cons_succ] at l3 f0
                have x0 : w5.cell? ⟨bn, on + j, none⟩ = some (.int .i64 z0) := (HU.out.1.2.1.cell (p := ⟨bn, on + j, none⟩) HBN.out).trans HX0.out
                go_wp2_with (at_builtin; refine wpList_append_own _ rfl (.tmp 72) (.tmp 83) 93 rfl B0 124 i5 (.agg #[.int .i64 0, .bool false]) 2 16 Tryz.underlying93 hi5 hz50 hz51 hz52 rfl (by decide) _ _ _ rfl (HU.out.1.1.alloc _) ⟨w5.heap.size, 0, none⟩ 1 1 [.int .i64 (pi : Int), .bool mb] rfl rfl (row_new w5 124 _) (by intro u hu; simp at hu; rcases hu with rfl | rfl <;> rfl) (by unfold maxLen; omega) (by omega) (by have := HU.out.1.2.1.size; have := HN.out; simp; omega) ?_)
                intro v7 w7 hown7 hgrow7 _
                rw [HSN.out.1] at hown7
                have hba : Below B0 w (w5.alloc (.cells #[.int .i64 (pi : Int), .bool mb] 124)) := HU.out.1.2.1.alloc (by have := HU.out.1.2.1.size; have := HN.out; omega) _
                obtain ⟨A8, c8, hv8⟩ := own_slice hown7
                subst hv8
                have HU7 : Hid ((w7.ownsRow B0 124 2 (.slice A8 (acc.length + 1) c8) (acc ++ [((pi : Int), mb)]).length (ncells (acc ++ [((pi : Int), mb)])) ∧ Below B0 w w7 ∧ Row w7 n0 33 #[.slice A0 k0 c0, .slice A1 k1 c1, .slice A2 k2 c2', .slice (some ⟨bq, oq, none⟩) k3 c3, .slice A4 k4 c4, .int .i64 t0, .int .i64 t1, .int .i64 t2, .int .i64 t3, .int .i64 t4] ∧ Row w7 n1 60 #[.int .i64 e1, .int .i64 e2]) ∧ Prs w7 DE (.slice (some ⟨be, oe, none⟩) es.length c2) es) := by
                  refine ⟨⟨by rw [HSN.out.2]; exact hown7, hba.grown hgrow7 (by have := hba.size; have := HN.out; omega) (fun kk hk => (HU.out.1.1.lt kk hk).1), (HU.out.1.2.2.1.alloc _).grown hgrow7 (own_ne HU.out.1.1 HU.out.1.2.2.1 (by decide)), (HU.out.1.2.2.2.alloc _).grown hgrow7 (own_ne HU.out.1.1 HU.out.1.2.2.2 (by decide))⟩, ?_⟩
                  exact (HU.out.2.mono (Nat.le_refl _) (fun kk hk => ((Below.refl w5.heap.size w5).alloc (Nat.le_refl _) (.cells #[.int .i64 (pi : Int), .bool mb] 124)).block kk (Nat.lt_of_lt_of_le hk HDE.out))).grown (HU.out.1.1.alloc _) (by decide) hgrow7
                clear hown7 hgrow7 hba HU x0 l3 f0 HQ0 p0 p1 p2 p3 hmb
                have g1 : w7.cell? ⟨be, oe + q * 2 + 1, none⟩ = some (.int .i64 z1) := by
                  obtain ⟨b2, o2, hA2, -, -, h2⟩ := HU7.out.2.at q hq
                  injection hA2 with hA2
                  injection hA2 with ha hb
                  subst ha hb
                  rw [hzi] at h2
                  exact h2
                have x0 : w7.cell? ⟨bn, on + j, none⟩ = some (.int .i64 z0) := (HU7.out.1.2.1.cell (p := ⟨bn, on + j, none⟩) HBN.out).trans HX0.out
                go_upto_region 18 with (fail)
                go_still_tail 11, (by kernel_rfl)
                change wpList _ _ _ _ _ w7.drew
                have HD8 : Hid (w7.drew.ownsRow B0 124 2 (.slice A8 (acc.length + 1) c8) (acc ++ [((pi : Int), mb)]).length (ncells (acc ++ [((pi : Int), mb)])) ∧ Below B0 w w7.drew ∧ Row w7.drew n0 33 #[.slice A0 k0 c0, .slice A1 k1 c1, .slice A2 k2 c2', .slice (some ⟨bq, oq, none⟩) k3 c3, .slice A4 k4 c4, .int .i64 t0, .int .i64 t1, .int .i64 t2, .int .i64 t3, .int .i64 t4] ∧ Row w7.drew n1 60 #[.int .i64 e1, .int .i64 e2]) := ⟨HU7.out.1.1, HU7.out.1.2.1.drew, HU7.out.1.2.2.1, HU7.out.1.2.2.2⟩
                clear g1 x0 HU7
                generalize w7.drew = wd at *
                have f0 := HD8.out.2.2.2.cell 0; have f1 := HD8.out.2.2.2.cell 1; have f2 := HD8.out.2.2.2.frozen 0; have f3 := HD8.out.2.2.2.frozen 1
                simp only [List.getElem?_toArray, List.getElem?_cons_zero, List.getElem?_cons_succ] at f0 f1
                have rs : Row ((wd.setCell ⟨n1, 0, none⟩ (.int .i64 z0)).setCell ⟨n1, 1, none⟩ (.int .i64 (1 - z1))) n1 60 #[.int .i64 z0, .int .i64 (1 - z1)] := (HD8.out.2.2.2.set 0 (.int .i64 z0)).set 1 (.int .i64 (1 - z1))
                have HNX : Hid (r = (wayR L (z0, 1 - z1) (ns.drop (j + 1))).map ((acc ++ [((pi : Int), mb)]) ++ ·) ∧ ((wd.setCell ⟨n1, 0, none⟩ (.int .i64 z0)).setCell ⟨n1, 1, none⟩ (.int .i64 (1 - z1))).ownsRow B0 124 2 (.slice A8 (acc.length + 1) c8) (acc ++ [((pi : Int), mb)]).length (ncells (acc ++ [((pi : Int), mb)])) ∧ Below B0 w ((wd.setCell ⟨n1, 0, none⟩ (.int .i64 z0)).setCell ⟨n1, 1, none⟩ (.int .i64 (1 - z1))) ∧ Row ((wd.setCell ⟨n1, 0, none⟩ (.int .i64 z0)).setCell ⟨n1, 1, none⟩ (.int .i64 (1 - z1))) n0 33 #[.slice A0 k0 c0, .slice A1 k1 c1, .slice A2 k2 c2', .slice (some ⟨bq, oq, none⟩) k3 c3, .slice A4 k4 c4, .int .i64 t0, .int .i64 t1, .int .i64 t2, .int .i64 t3, .int .i64 t4] ∧ Row ((wd.setCell ⟨n1, 0, none⟩ (.int .i64 z0)).setCell ⟨n1, 1, none⟩ (.int .i64 (1 - z1))) n1 60 #[.int .i64 z0, .int .i64 (1 - z1)]) := by
                  have hfar := own_ne HD8.out.1 HD8.out.2.2.2 (by decide)
                  have hn := HN.out
                  exact ⟨HQ.out, own_far (own_far HD8.out.1 (fun e => hfar e.symm) _) (fun e => hfar e.symm) _, (HD8.out.2.1.setCell (p := ⟨n1, 0, none⟩) (by simp; omega) _).setCell (p := ⟨n1, 1, none⟩) (by simp; omega) _, (HD8.out.2.2.1.far (p := ⟨n1, 0, none⟩) (by simp; omega) _).far (p := ⟨n1, 1, none⟩) (by simp; omega) _, rs⟩
                clear rs HD8 HQ
                go_wp2_with fail
                go_roundw
                case rel => exact ⟨j + 1, acc ++ [((pi : Int), mb)], z0, 1 - z1, by omega, by simp; omega, by go_num, HNX⟩
                case measure => simp [intOf]; omega
            · have HQ : Hid (r = (wayR L (z0, 1 - z1) (ns.drop (j + 1))).map (acc ++ ·)) := by
                show _ = _
                rw [HW.out]
                unfold needR
                rw [if_neg hp, List.append_nil]
              have hpn : ¬ (0 : Int) ≤ pointAtL L (e1, e2) := hp
              clear HW HPA
              generalize pointAtL L (e1, e2) = pp at *
              have g1 : w5.cell? ⟨be, oe + q * 2 + 1, none⟩ = some (.int .i64 z1) := by
                obtain ⟨b2, o2, hA2, -, -, h2⟩ := HU.out.2.at q hq
                injection hA2 with hA2
                injection hA2 with ha hb
                subst ha hb
                rw [hzi] at h2
                exact h2
              have x0 : w5.cell? ⟨bn, on + j, none⟩ = some (.int .i64 z0) := (HU.out.1.2.1.cell (p := ⟨bn, on + j, none⟩) HBN.out).trans HX0.out
              go_upto_region 18 with (fail)
              go_still_tail 11, (by kernel_rfl)
              change wpList _ _ _ _ _ w5.drew
              have HD8 : Hid (w5.drew.ownsRow B0 124 2 (.slice At acc.length ct) (acc).length (ncells (acc)) ∧ Below B0 w w5.drew ∧ Row w5.drew n0 33 #[.slice A0 k0 c0, .slice A1 k1 c1, .slice A2 k2 c2', .slice A3 k3 c3, .slice A4 k4 c4, .int .i64 t0, .int .i64 t1, .int .i64 t2, .int .i64 t3, .int .i64 t4] ∧ Row w5.drew n1 60 #[.int .i64 e1, .int .i64 e2]) := ⟨HU.out.1.1, HU.out.1.2.1.drew, HU.out.1.2.2.1, HU.out.1.2.2.2⟩
              clear g1 x0 HU
              generalize w5.drew = wd at *
              have f0 := HD8.out.2.2.2.cell 0; have f1 := HD8.out.2.2.2.cell 1; have f2 := HD8.out.2.2.2.frozen 0; have f3 := HD8.out.2.2.2.frozen 1
              simp only [List.getElem?_toArray, List.getElem?_cons_zero, List.getElem?_cons_succ] at f0 f1
              have rs : Row ((wd.setCell ⟨n1, 0, none⟩ (.int .i64 z0)).setCell ⟨n1, 1, none⟩ (.int .i64 (1 - z1))) n1 60 #[.int .i64 z0, .int .i64 (1 - z1)] := (HD8.out.2.2.2.set 0 (.int .i64 z0)).set 1 (.int .i64 (1 - z1))
              have HNX : Hid (r = (wayR L (z0, 1 - z1) (ns.drop (j + 1))).map ((acc) ++ ·) ∧ ((wd.setCell ⟨n1, 0, none⟩ (.int .i64 z0)).setCell ⟨n1, 1, none⟩ (.int .i64 (1 - z1))).ownsRow B0 124 2 (.slice At acc.length ct) (acc).length (ncells (acc)) ∧ Below B0 w ((wd.setCell ⟨n1, 0, none⟩ (.int .i64 z0)).setCell ⟨n1, 1, none⟩ (.int .i64 (1 - z1))) ∧ Row ((wd.setCell ⟨n1, 0, none⟩ (.int .i64 z0)).setCell ⟨n1, 1, none⟩ (.int .i64 (1 - z1))) n0 33 #[.slice A0 k0 c0, .slice A1 k1 c1, .slice A2 k2 c2', .slice A3 k3 c3, .slice A4 k4 c4, .int .i64 t0, .int .i64 t1, .int .i64 t2, .int .i64 t3, .int .i64 t4] ∧ Row ((wd.setCell ⟨n1, 0, none⟩ (.int .i64 z0)).setCell ⟨n1, 1, none⟩ (.int .i64 (1 - z1))) n1 60 #[.int .i64 z0, .int .i64 (1 - z1)]) := by
                have hfar := own_ne HD8.out.1 HD8.out.2.2.2 (by decide)
                have hn := HN.out
                exact ⟨HQ.out, own_far (own_far HD8.out.1 (fun e => hfar e.symm) _) (fun e => hfar e.symm) _, (HD8.out.2.1.setCell (p := ⟨n1, 0, none⟩) (by simp; omega) _).setCell (p := ⟨n1, 1, none⟩) (by simp; omega) _, (HD8.out.2.2.1.far (p := ⟨n1, 0, none⟩) (by simp; omega) _).far (p := ⟨n1, 1, none⟩) (by simp; omega) _, rs⟩
              clear rs HD8 HQ
              go_wp2_with fail
              go_roundw
              case rel => exact ⟨j + 1, acc, z0, 1 - z1, by omega, by omega, by go_num, HNX⟩
              case measure => simp [intOf]; omega
          · have hbz : (z0 == x) = false := by simpa using hzx
            have HN2 : Hid (∀ j (hj : j < es.length), j < q + 1 → es[j].1 ≠ x) := fun j' hj' hji => by
              rcases Nat.lt_or_ge j' q with cc | cc
              · exact HNO.out j' hj' cc
              · obtain rfl : j' = q := by omega
                rw [hzi]; exact hzx
            go_upto_region 7 with (fail)
            go_quiet (fail)
            have HF : Hid (∀ n, ((wr.drewN n).ownsRow B0 124 2 (.slice At acc.length ct) (acc).length (ncells (acc)) ∧ Below B0 w (wr.drewN n) ∧ Row (wr.drewN n) n0 33 #[.slice A0 k0 c0, .slice A1 k1 c1, .slice A2 k2 c2', .slice A3 k3 c3, .slice A4 k4 c4, .int .i64 t0, .int .i64 t1, .int .i64 t2, .int .i64 t3, .int .i64 t4] ∧ Row (wr.drewN n) n1 60 #[.int .i64 e1, .int .i64 e2]) ∧ Prs (wr.drewN n) DE (.slice (some ⟨be, oe, none⟩) es.length c2) es ∧ DE ≤ (wr.drewN n).heap.size) := fun n => ⟨⟨HQS.out.1.1, Below.drewN HQS.out.1.2.1 n, HQS.out.1.2.2.1, HQS.out.1.2.2.2⟩, HQS.out.2.1.drewN n, HQS.out.2.2⟩
            clear HQS g0 g1 x0 hdq hbz
            go_wp2_with fail
            go_roundw
            case rel => exact ⟨q + 1, by omega, by go_num, HN2, HF.out _⟩
            case measure => simp [intOf]; omega
        · have hdq : decide ((q : Int) < (es.length : Int)) = false := decide_eq_false (by omega)
          have HRN : Hid (r = none) := HW0.out (inL_none fun j' hj' => HNO.out j' hj' (by omega))
          have hqe : q = es.length := by omega
          have HBF := Lib.hid HQS.out.1.2.1
          clear HNO HW0 HW1 HND HQS
          subst hqe
          go_upto_region 7 with (fail)
          go_quiet (fail)
          go_wp2_with fail
          go_ret2
          rw [HRN.out]
          exact ⟨_, rfl, World.ownsRow_nil _ _ _ _, by rw [← HN.out.1, ← HN.out.2.1]; exact Below.drewN HBF.out _⟩
    · have HRE : Hid (r = some acc) := by
        have h1 := HJ.out.1
        rw [List.drop_eq_nil_of_le (by omega), wayR] at h1
        show _ = _
        rw [h1]; simp
      go_wp2_with fail
      go_ret2
      rw [HRE.out]
      exact ⟨_, rfl, by rw [← HN.out.1, ← HN.out.2.1]; exact HJ.out.2.1, by rw [← HN.out.1, ← HN.out.2.1]; exact HJ.out.2.2.1⟩

end Go.Proofs.YtagkgejdammflaaGreat
