/- Contract: the document's Path. -/
import Derived.Test.YtagkgejdammflaaGreatR6
import Derived.Test.YtagkgejdammflaaGreatNB
namespace Go.Proofs.YtagkgejdammflaaGreat
open Go.RowKit Fl
set_option maxRecDepth 100000

def waysR (L : Lay) (a : Int) (r : List Int) : Option (List (Int × Bool)) := match wayR L (a, 0) r with
  | some x => some x
  | none => wayR L (a, 1) r
def pathR (L : Lay) (p : List Int) : Option (List (Int × Bool)) := if p.length < 2 ∨ (riseL p).length < p.length then none else waysR L (p.getD 0 0) (p.drop 1)

set_option maxHeartbeats 8000000 in
theorem refPath_any (w : World) (D : Nat) (v : Value) (L : Lay) (A : Option Addr) (c : Nat) (p : List Int) (h : LayV w D v L) (hD : D ≤ w.heap.size) (hL : Fits L) (hp : Rd w w.heap.size (.slice A p.length c) (ivals p)) (hpl : p.length ≤ 1000) :
    Calls Tryz.prog 55 #[v, .slice A p.length c] w (RetWayR w.heap.size (pathR L p) w) := by
  have HV := Lib.hid h
  obtain ⟨A0, k0, c0, A1, k1, c1, A2, k2, c2, A3, k3, c3, A4, k4, c4, t0, t1, t2, t3, t4, rfl, -, -, -, -⟩ := h.lens
  have hbn := (Below.refl w.heap.size w).alloc (Nat.le_refl _) (.cells #[.slice A0 k0 c0, .slice A1 k1 c1, .slice A2 k2 c2, .slice A3 k3 c3, .slice A4 k4 c4, .int .i64 t0, .int .i64 t1, .int .i64 t2, .int .i64 t3, .int .i64 t4] 33)
  have HBA := Lib.hid hbn
  have HRA := Lib.hid (Row.new w 33 #[.slice A0 k0 c0, .slice A1 k1 c1, .slice A2 k2 c2, .slice A3 k3 c3, .slice A4 k4 c4, .int .i64 t0, .int .i64 t1, .int .i64 t2, .int .i64 t3, .int .i64 t4])
  have HPA := Lib.hid (hp.up hbn)
  have HL := Lib.hid hL
  have HP := Lib.hid hp
  clear hL hbn
  obtain ⟨B0, hB0⟩ : ∃ n, n = w.heap.size := ⟨_, rfl⟩
  rw [← hB0] at HBA ⊢
  have HB0 := Lib.hid hB0
  have hDB : D ≤ B0 := by omega
  clear hB0 hD
  by_cases h2 : p.length < 2
  · have HE : Hid (pathR L p = none) := by show _ = _; unfold pathR; rw [if_pos (Or.inl h2)]
    generalize pathR L p = r at *
    generalize p.length = m at *
    clear hp HP HPA
    have h2i : (m : Int) < 2 := by omega
    go_enter Tryz.func55, Tryz.ntmps55
    go_wp2_with fail
    go_ret2
    rw [HE.out]
    exact ⟨_, rfl, World.ownsRow_nil _ _ _ _, HBA.out⟩
  · obtain ⟨A', c', hv, ⟨h0, hcl⟩, hx⟩ := hp
    injection hv with e1 e2 e3
    subst e1 e3
    have hvl : (ivals p).length = p.length := by simp [ivals]
    rw [hvl] at hcl hx
    obtain ⟨b, o, rfl, hb, hcc⟩ := hx (by omega)
    obtain ⟨a, rest, rfl⟩ : ∃ a rest, p = a :: rest := by cases p with | nil => simp at h2 | cons a r => exact ⟨a, r, rfl⟩
    have q0 : w.cell? ⟨b, o, none⟩ = some (.int .i64 a) := hcc 0 _ (by simp [ivals])
    have HQ : Hid (∀ j u, (ivals rest)[j]? = some u → w.cell? ⟨b, o + 1 + j, none⟩ = some u) := fun j u hu => by
      have := hcc (j + 1) u (by simpa [ivals] using hu)
      rw [show o + 1 + j = o + (j + 1) by omega]; exact this
    have HQ0 := Lib.hid q0
    have HBL : Hid (b < B0) := by have := HB0.out; show b < B0; omega
    clear q0 hcc hx h0 hvl hb e2
    obtain ⟨m, hm⟩ : ∃ m, (a :: rest).length = m := ⟨_, rfl⟩
    have HM : Hid (rest.length + 1 = m) := by rw [← hm]; rfl
    have HRS : Hid ((riseL (a :: rest)).length < m → pathR L (a :: rest) = none) := fun h => by unfold pathR; rw [if_pos (Or.inr (by omega))]
    have HRW : Hid (¬ (riseL (a :: rest)).length < m → pathR L (a :: rest) = waysR L a rest) := fun h => by
      unfold pathR
      rw [if_neg (by omega)]; rfl
    rw [hm] at HP HPA h2 hpl hcl ⊢
    have h2i : ¬ (m : Int) < 2 := by omega
    generalize pathR L (a :: rest) = r at *
    have hml : (a :: rest).length ≤ 1000 := by omega
    have hrl := riseL_le (a :: rest)
    rw [hm] at hrl
    clear hm
    go_enter Tryz.func55, Tryz.ntmps55
    go_upto_region 1 with (fail)
    obtain ⟨n0, hn0⟩ : ∃ n, n = w.heap.size := ⟨_, rfl⟩
    rw [← hn0] at HRA ⊢
    have HN0 : Hid (n0 = B0) := by have := HB0.out; show _ = _; omega
    clear hn0
    generalize w.alloc (.cells #[.slice A0 k0 c0, .slice A1 k1 c1, .slice A2 k2 c2, .slice A3 k3 c3, .slice A4 k4 c4, .int .i64 t0, .int .i64 t1, .int .i64 t2, .int .i64 t3, .int .i64 t4] 33) = W0 at *
    go_wp2_with fail
    refine (refRise_any W0 _ (a :: rest) HPA.out hml).mono ?_; rintro e w2 ⟨v2, rfl, ho2, hb2⟩
    obtain ⟨A9, c9, hv9⟩ := own_slice ho2
    subst hv9
    have HB2 : Hid (Below B0 w w2) := HBA.out.trans (hb2.mono (by have := HBA.out.size; have := HB0.out; omega))
    have HR2 := Lib.hid (Below.row hb2 HRA.out HRA.out.lt)
    clear ho2 hb2 HP HPA HBA HRA
    generalize (riseL (a :: rest)).length = rl at *
    by_cases hr : rl < m
    · have HE := Lib.hid (HRS.out hr)
      have hri : ¬ (rl : Int) = (m : Int) := by omega
      have hrn : ¬ rl = m := by omega
      have hrb : ((rl : Int) == (m : Int)) = false := by rw [beq_eq_false_iff_ne]; exact hri
      clear HRS HRW
      go_wp2_with fail
      go_ret2
      rw [HE.out]
      exact ⟨_, rfl, World.ownsRow_nil _ _ _ _, HB2.out⟩
    · have HE := Lib.hid (HRW.out hr)
      have hrm : rl = m := by omega
      subst hrm
      have hc1 : ¬ c = 1 := by omega
      have h1m : (1 : Int) ≤ (rl : Int) := by omega
      have h0m : (0 : Int) < (rl : Int) := by omega
      have h0n : 0 < rl := by omega
      have h1n : 1 ≤ rl := by omega
      have hz : ¬ rl = 0 := by omega
      clear HRS HRW hr hrl
      have HWAY : Hid (∀ (W : World) (k : Int), Below B0 w W → Calls Tryz.prog 72 #[.agg #[.slice A0 k0 c0, .slice A1 k1 c1, .slice A2 k2 c2, .slice A3 k3 c3, .slice A4 k4 c4, .int .i64 t0, .int .i64 t1, .int .i64 t2, .int .i64 t3, .int .i64 t4], .agg #[.int .i64 a, .int .i64 k], .slice (some ⟨b, o + 1, none⟩) (rl - 1) (c - 1)] W (RetWayR W.heap.size (wayR L (a, k) rest) W)) := fun W k hW => by
        have e : rl - 1 = rest.length := by have := HM.out; omega
        rw [e]
        refine refWay_any W D _ L a k (some ⟨b, o + 1, none⟩) (c - 1) rest (HV.out.keep hW hDB) (by have := hW.size; have := HB0.out; omega) HL.out ?_ (by have := HM.out; omega)
        refine ⟨some ⟨b, o + 1, none⟩, c - 1, by simp [ivals], ⟨(fun e => by cases e), by simp [ivals]; have := HM.out; omega⟩, fun _ => ⟨b, o + 1, rfl, by have := hW.size; have := HB0.out; have := HBL.out; omega, fun j u hu => ?_⟩⟩
        exact (hW.cell (p := ⟨b, o + 1 + j, none⟩) HBL.out).trans (HQ.out j u hu)
      go_wp2_with fail
      go_loopw [6] (fun k wr => ∃ i : Nat, i ≤ 2 ∧ k = .int .i64 i ∧ Hid ((0 < i → wayR L (a, 0) rest = none) ∧ (1 < i → wayR L (a, 1) rest = none)) ∧ Hid (Below B0 w wr ∧ Row wr n0 33 #[.slice A0 k0 c0, .slice A1 k1 c1, .slice A2 k2 c2, .slice A3 k3 c3, .slice A4 k4 c4, .int .i64 t0, .int .i64 t1, .int .i64 t2, .int .i64 t3, .int .i64 t4])) (fun k _ => 2 - (intOf k).toNat)
      case atStart => exact ⟨0, Nat.zero_le _, rfl, ⟨fun h => absurd h (by omega), fun h => absurd h (by omega)⟩, HB2.out, HR2.out⟩
      case round =>
        obtain ⟨i, hi, rfl, HNO, HB3⟩ := hrel
        by_cases hlt : i < 2
        · have HWS : Hid (∀ xs, wayR L (a, (i : Int)) rest = some xs → waysR L a rest = some xs) := fun xs hx => by
            unfold waysR
            rcases Nat.lt_or_ge 0 i with c | c
            · have e : i = 1 := by omega
              subst e
              rw [HNO.out.1 (by omega)]; exact hx
            · have e : i = 0 := by omega
              subst e
              have hx' : wayR L (a, 0) rest = some xs := hx
              rw [hx']
          have HWN : Hid (wayR L (a, (i : Int)) rest = none → (0 < i + 1 → wayR L (a, 0) rest = none) ∧ (1 < i + 1 → wayR L (a, 1) rest = none)) := fun hx => by
            rcases Nat.lt_or_ge 0 i with c | c
            · have e : i = 1 := by omega
              subst e
              exact ⟨fun _ => HNO.out.1 (by omega), fun _ => hx⟩
            · have e : i = 0 := by omega
              subst e
              exact ⟨fun _ => hx, fun h => absurd h (by omega)⟩
          have d1 : wr.drew.cell? ⟨b, o, none⟩ = some (.int .i64 a) := (HB3.out.1.drew.cell (p := ⟨b, o, none⟩) HBL.out).trans HQ0.out
          have HBD : Hid (Below B0 w wr.drew) := HB3.out.1.drew
          have HRD : Hid (Row wr.drew n0 33 #[.slice A0 k0 c0, .slice A1 k1 c1, .slice A2 k2 c2, .slice A3 k3 c3, .slice A4 k4 c4, .int .i64 t0, .int .i64 t1, .int .i64 t2, .int .i64 t3, .int .i64 t4]) := HB3.out.2
          have HSZ : Hid (B0 ≤ wr.drew.heap.size) := by have := HB3.out.1.size; have := HB0.out; show B0 ≤ wr.heap.size; omega
          have l0 := HRD.out.cell 0; have l1 := HRD.out.cell 1; have l2 := HRD.out.cell 2; have l3 := HRD.out.cell 3; have l4 := HRD.out.cell 4; have l5 := HRD.out.cell 5; have l6 := HRD.out.cell 6; have l7 := HRD.out.cell 7; have l8 := HRD.out.cell 8; have l9 := HRD.out.cell 9
          simp only [List.getElem?_toArray, List.getElem?_cons_zero, List.getElem?_cons_succ] at l0 l1 l2 l3 l4 l5 l6 l7 l8 l9
          have HSB : Hid (b < wr.drew.heap.size) := Nat.lt_of_lt_of_le HBL.out HSZ.out
          clear HNO
          go_upto_region 6 with (fail)
          go_region_held3 (fun w' => w'.cell? ⟨b, o, none⟩ = some (.int .i64 a) ∧ w'.cell? ⟨n0, 0, none⟩ = some (.slice A0 k0 c0) ∧ w'.cell? ⟨n0, 1, none⟩ = some (.slice A1 k1 c1) ∧ w'.cell? ⟨n0, 2, none⟩ = some (.slice A2 k2 c2) ∧ w'.cell? ⟨n0, 3, none⟩ = some (.slice A3 k3 c3) ∧ w'.cell? ⟨n0, 4, none⟩ = some (.slice A4 k4 c4) ∧ w'.cell? ⟨n0, 5, none⟩ = some (.int .i64 t0) ∧ w'.cell? ⟨n0, 6, none⟩ = some (.int .i64 t1) ∧ w'.cell? ⟨n0, 7, none⟩ = some (.int .i64 t2) ∧ w'.cell? ⟨n0, 8, none⟩ = some (.int .i64 t3) ∧ w'.cell? ⟨n0, 9, none⟩ = some (.int .i64 t4)) (first | exact ⟨d1, l0, l1, l2, l3, l4, l5, l6, l7, l8, l9⟩ | exact ⟨d2, m0, m1, m2, m3, m4, m5, m6, m7, m8, m9⟩ | go_keep) (first | (go_at_call 72; (with_reducible refine (HWAY.out wr.drew (i : Int) HBD.out).mono ?_); rintro e w3 ⟨v3, rfl, ho3, hb3⟩; have d2 : w3.cell? ⟨b, o, none⟩ = some (.int .i64 a) := (hb3.cell (p := ⟨b, o, none⟩) HSB.out).trans d1; have HO3 := Lib.hid ho3; have HB4 : Hid (Below B0 w w3 ∧ Row w3 n0 33 #[.slice A0 k0 c0, .slice A1 k1 c1, .slice A2 k2 c2, .slice A3 k3 c3, .slice A4 k4 c4, .int .i64 t0, .int .i64 t1, .int .i64 t2, .int .i64 t3, .int .i64 t4]) := ⟨HBD.out.trans (hb3.mono HSZ.out), Below.row hb3 HRD.out HRD.out.lt⟩; have m0 : w3.cell? ⟨n0, 0, none⟩ = some (.slice A0 k0 c0) := HB4.out.2.cell 0; have m1 : w3.cell? ⟨n0, 1, none⟩ = some (.slice A1 k1 c1) := HB4.out.2.cell 1; have m2 : w3.cell? ⟨n0, 2, none⟩ = some (.slice A2 k2 c2) := HB4.out.2.cell 2; have m3 : w3.cell? ⟨n0, 3, none⟩ = some (.slice A3 k3 c3) := HB4.out.2.cell 3; have m4 : w3.cell? ⟨n0, 4, none⟩ = some (.slice A4 k4 c4) := HB4.out.2.cell 4; have m5 : w3.cell? ⟨n0, 5, none⟩ = some (.int .i64 t0) := HB4.out.2.cell 5; have m6 : w3.cell? ⟨n0, 6, none⟩ = some (.int .i64 t1) := HB4.out.2.cell 6; have m7 : w3.cell? ⟨n0, 7, none⟩ = some (.int .i64 t2) := HB4.out.2.cell 7; have m8 : w3.cell? ⟨n0, 8, none⟩ = some (.int .i64 t3) := HB4.out.2.cell 8; have m9 : w3.cell? ⟨n0, 9, none⟩ = some (.int .i64 t4) := HB4.out.2.cell 9; clear ho3 hb3))
          clear d1 d2 l0 l1 l2 l3 l4 l5 l6 l7 l8 l9 m0 m1 m2 m3 m4 m5 m6 m7 m8 m9 HB3
          cases hw : wayR L (a, (i : Int)) rest with
          | some xs =>
            have HES : Hid (r = some xs) := by show _ = _; rw [HE.out]; exact HWS.out xs hw
            rw [hw] at HO3
            clear hw HWS HWN
            simp only [Option.isSome_some, Option.getD_some] at HO3 ⊢
            go_wp2_with fail
            go_ret2
            rw [HES.out]
            exact ⟨_, rfl, own_base HO3.out HSZ.out, HB4.out.1⟩
          | none =>
            have HN2 := Lib.hid (HWN.out hw)
            clear hw HWS HWN HO3
            simp only [Option.isSome_none]
            go_wp2_with fail
            go_roundw
            case rel => exact ⟨i + 1, by omega, by go_num, HN2, HB4⟩
            case measure => simp [intOf]; omega
        · have HES : Hid (r = none) := by show _ = _; rw [HE.out]; unfold waysR; rw [HNO.out.1 (by omega), HNO.out.2 (by omega)]
          go_wp2_with fail
          go_ret2
          rw [HES.out]
          exact ⟨_, rfl, World.ownsRow_nil _ _ _ _, HB3.out.1⟩

/-- Of a draft's track the needs are the document's. -/
def needsEq (L : Lay) : Bool := (List.range L.secs.length).all fun s => [(0 : Int), 1].all fun k => (aroundL L ((s : Int), k)).all fun x => decide (needL L ((s : Int), k) x.1 = needR L ((s : Int), k) x.1)
theorem needs_shapes : ∀ f : Fin 24, needsEq (makeL (dOf f.val)) = true := by decide +kernel
theorem around_end {L : Lay} {e : Int × Int} (h : 0 < (aroundL L e).length) : ∃ (s : Nat) (k : Int), e = ((s : Int), k) ∧ s < L.secs.length ∧ (k = 0 ∨ k = 1) := by
  obtain ⟨n, hn⟩ := around_node h
  unfold nodeL at hn
  split at hn
  · rename_i hb
    unfold hasB at hb
    simp only [Bool.and_eq_true, decide_eq_true_eq] at hb
    obtain ⟨e1, e2⟩ := e
    simp only at hb hn
    refine ⟨e1.toNat, e2, by rw [Int.toNat_of_nonneg hb.1], by omega, ?_⟩
    by_cases h0 : e2 = 0
    · exact Or.inl h0
    · rw [if_neg h0] at hn
      by_cases h1 : e2 = 1
      · exact Or.inr h1
      · rw [if_neg h1] at hn; simp at hn
  · simp at hn
theorem need_eq (d : Dr) (e : Int × Int) (n : Int) (i : Nat) (h : inL (aroundL (fullL d) e) n = some i) : needL (fullL d) e n = needR (fullL d) e n := by
  have hi := inL_lt h
  obtain ⟨s, k, rfl, hs, hk⟩ := around_end (L := fullL d) (e := e) (by omega)
  have hsh := needs_shapes ⟨d.form % 24, Nat.mod_lt _ (by decide)⟩
  have e := shape_se d
  have p := shape_pts d
  have e1 : ∀ e n, needL (fullL d) e n = needL (shape d) e n := fun e' n => by unfold needL; rw [pointAtL_se e p, p]
  have e2 : ∀ e n, needR (fullL d) e n = needR (shape d) e n := fun e' n => by unfold needR; rw [pointAtL_se e p, p]
  rw [aroundL_se e p] at h hi
  rw [e1, e2]
  rw [e.1] at hs
  have h2 := List.all_eq_true.1 hsh s (List.mem_range.2 hs)
  have h3 := List.all_eq_true.1 h2 k (by rcases hk with rfl | rfl <;> simp)
  have h4 := List.all_eq_true.1 h3 _ (List.getElem_mem hi)
  have hx : (aroundL (shape d) ((s : Int), k))[i].1 = n := by
    unfold inL at h
    rw [List.findIdx?_eq_some_iff_getElem] at h
    simpa using h.2.1
  have h5 : needL (shape d) ((s : Int), k) (aroundL (shape d) ((s : Int), k))[i].1 = needR (shape d) ((s : Int), k) (aroundL (shape d) ((s : Int), k))[i].1 := of_decide_eq_true h4
  rw [hx] at h5
  exact h5
theorem way_eq (d : Dr) : ∀ (ns : List Int) (e : Int × Int), wayL (fullL d) e ns = wayR (fullL d) e ns
  | [], _ => rfl
  | n :: r, e => by
    cases hi : inL (aroundL (fullL d) e) n with
    | none => rw [wayL_none hi, wayR_none hi]
    | some i => rw [wayL_some hi, wayR_some hi, way_eq d r, need_eq d e n i hi]
theorem path_eq (d : Dr) (p : List Int) : pathL (fullL d) p = pathR (fullL d) p := by
  have h : ∀ a r, ways (fullL d) a r = waysR (fullL d) a r := fun a r => by
    unfold ways waysR
    rw [way_eq, way_eq]
    cases wayR (fullL d) (a, 0) r <;> rfl
  unfold pathL pathR
  rw [h]

end Go.Proofs.YtagkgejdammflaaGreat
