/- The law's judged, and nothing. -/
import Derived.Test.YtagkgejdammflaaGreatV31
import Derived.Test.YtagkgejdammflaaGreatMake
namespace Go.Proofs.YtagkgejdammflaaGreat
open Go.RowKit Fl
set_option maxRecDepth 100000

/-- Not too big for the document, either. -/
structure Vf2 (L : Lay) : Prop where
  v : Vf L
  r : ∀ r ∈ L.routes, r.length ≤ 1000

set_option maxHeartbeats 4000000 in
theorem judged_any (w : World) (v : Value) (L : Lay) (h : LayV w w.heap.size v L) (hV : Vf2 L) : Calls Tryz.prog 13 #[v] w (RetL true w) := by
  have HV0 := Lib.hid h
  obtain ⟨vN, vS, vP, vQ, vR, ps, rfl, hd⟩ := h
  obtain ⟨⟨A0, c0, rfl⟩, ⟨A1, c1, rfl⟩, ⟨A2, c2, rfl⟩, ⟨A3, c3, rfl⟩, ⟨A4, c4, rfl⟩⟩ := hd.slices
  have hbn := (Below.refl w.heap.size w).alloc (Nat.le_refl _) (.cells #[.slice A0 L.nodes.length c0, .slice A1 L.secs.length c1, .slice A2 L.parts.length c2, .slice A3 L.points.length c3, .slice A4 L.routes.length c4, .int .i64 L.speed, .int .i64 L.mute, .int .i64 L.wait, .int .i64 L.cancel, .int .i64 L.stay] 33)
  have HBA := Lib.hid hbn
  have HRA := Lib.hid (Row.new w 33 #[.slice A0 L.nodes.length c0, .slice A1 L.secs.length c1, .slice A2 L.parts.length c2, .slice A3 L.points.length c3, .slice A4 L.routes.length c4, .int .i64 L.speed, .int .i64 L.mute, .int .i64 L.wait, .int .i64 L.cancel, .int .i64 L.stay])
  have HVA := Lib.hid (HV0.out.up hbn)
  have HDA := Lib.hid (hd.mono hbn.size (fun _ hp => hbn.cell hp))
  clear hbn hd HV0
  have HVV := Lib.hid hV
  have HS0 : Hid (FiSt w w.heap.size #[.slice A0 L.nodes.length c0, .slice A1 L.secs.length c1, .slice A2 L.parts.length c2, .slice A3 L.points.length c3, .slice A4 L.routes.length c4, .int .i64 L.speed, .int .i64 L.mute, .int .i64 L.wait, .int .i64 L.cancel, .int .i64 L.stay] L (w.alloc (.cells #[.slice A0 L.nodes.length c0, .slice A1 L.secs.length c1, .slice A2 L.parts.length c2, .slice A3 L.points.length c3, .slice A4 L.routes.length c4, .int .i64 L.speed, .int .i64 L.mute, .int .i64 L.wait, .int .i64 L.cancel, .int .i64 L.stay] 33))) := ⟨HBA.out, HRA.out, HVA.out⟩
  clear hV HBA HRA HVA HDA
  go_enter Tryz.func13, Tryz.ntmps13
  go_upto_region 1 with (fail)
  obtain ⟨n0, hn0⟩ : ∃ n, n = w.heap.size := ⟨_, rfl⟩
  have HS1 : Hid (FiSt w n0 #[.slice A0 L.nodes.length c0, .slice A1 L.secs.length c1, .slice A2 L.parts.length c2, .slice A3 L.points.length c3, .slice A4 L.routes.length c4, .int .i64 L.speed, .int .i64 L.mute, .int .i64 L.wait, .int .i64 L.cancel, .int .i64 L.stay] L (w.alloc (.cells #[.slice A0 L.nodes.length c0, .slice A1 L.secs.length c1, .slice A2 L.parts.length c2, .slice A3 L.points.length c3, .slice A4 L.routes.length c4, .int .i64 L.speed, .int .i64 L.mute, .int .i64 L.wait, .int .i64 L.cancel, .int .i64 L.stay] 33))) := by rw [hn0]; exact HS0.out
  rw [← hn0]
  clear hn0 HS0
  generalize w.alloc (.cells #[.slice A0 L.nodes.length c0, .slice A1 L.secs.length c1, .slice A2 L.parts.length c2, .slice A3 L.points.length c3, .slice A4 L.routes.length c4, .int .i64 L.speed, .int .i64 L.mute, .int .i64 L.wait, .int .i64 L.cancel, .int .i64 L.stay] 33) = W0 at *
  have l0 := HS1.out.row.cell 0
  have l1 := HS1.out.row.cell 1
  have l2 := HS1.out.row.cell 2
  have l3 := HS1.out.row.cell 3
  have l4 := HS1.out.row.cell 4
  have l5 := HS1.out.row.cell 5
  have l6 := HS1.out.row.cell 6
  have l7 := HS1.out.row.cell 7
  have l8 := HS1.out.row.cell 8
  have l9 := HS1.out.row.cell 9
  simp only [List.getElem?_toArray, List.getElem?_cons_zero, List.getElem?_cons_succ] at l0 l1 l2 l3 l4 l5 l6 l7 l8 l9
  have h1 := first_any W0 (.agg #[.slice A0 L.nodes.length c0, .slice A1 L.secs.length c1, .slice A2 L.parts.length c2, .slice A3 L.points.length c3, .slice A4 L.routes.length c4, .int .i64 L.speed, .int .i64 L.mute, .int .i64 L.wait, .int .i64 L.cancel, .int .i64 L.stay]) L HS1.out.lay HVV.out.v
  obtain ⟨x, hx⟩ : ∃ x, firstL L = x := ⟨_, rfl⟩
  have HX := Lib.hid hx
  rw [hx] at h1
  obtain ⟨x1, x2⟩ := x
  clear hx
  go_wp2_with fail
  refine h1.mono ?_; rintro e w1 ⟨rfl, hb1⟩
  have HS2 := Lib.hid (HS1.out.call hb1)
  clear hb1 h1 HS1
  clear l0 l1 l2 l3 l4 l5 l6 l7 l8 l9
  have l0 := HS2.out.row.cell 0
  have l1 := HS2.out.row.cell 1
  have l2 := HS2.out.row.cell 2
  have l3 := HS2.out.row.cell 3
  have l4 := HS2.out.row.cell 4
  have l5 := HS2.out.row.cell 5
  have l6 := HS2.out.row.cell 6
  have l7 := HS2.out.row.cell 7
  have l8 := HS2.out.row.cell 8
  have l9 := HS2.out.row.cell 9
  simp only [List.getElem?_toArray, List.getElem?_cons_zero, List.getElem?_cons_succ] at l0 l1 l2 l3 l4 l5 l6 l7 l8 l9
  have h2 := refFirst_any w1 (.agg #[.slice A0 L.nodes.length c0, .slice A1 L.secs.length c1, .slice A2 L.parts.length c2, .slice A3 L.points.length c3, .slice A4 L.routes.length c4, .int .i64 L.speed, .int .i64 L.mute, .int .i64 L.wait, .int .i64 L.cancel, .int .i64 L.stay]) L HS2.out.lay HVV.out.v HVV.out.r
  rw [HX.out] at h2
  go_wp2_with fail
  refine h2.mono ?_; rintro e w2 ⟨rfl, hb2⟩
  have HS3 := Lib.hid (HS2.out.call hb2)
  clear hb2 h2 HS2
  clear l0 l1 l2 l3 l4 l5 l6 l7 l8 l9
  have l0 := HS3.out.row.cell 0
  have l1 := HS3.out.row.cell 1
  have l2 := HS3.out.row.cell 2
  have l3 := HS3.out.row.cell 3
  have l4 := HS3.out.row.cell 4
  have l5 := HS3.out.row.cell 5
  have l6 := HS3.out.row.cell 6
  have l7 := HS3.out.row.cell 7
  have l8 := HS3.out.row.cell 8
  have l9 := HS3.out.row.cell 9
  simp only [List.getElem?_toArray, List.getElem?_cons_zero, List.getElem?_cons_succ] at l0 l1 l2 l3 l4 l5 l6 l7 l8 l9
  have h3 := right_any w2 (.agg #[.slice A0 L.nodes.length c0, .slice A1 L.secs.length c1, .slice A2 L.parts.length c2, .slice A3 L.points.length c3, .slice A4 L.routes.length c4, .int .i64 L.speed, .int .i64 L.mute, .int .i64 L.wait, .int .i64 L.cancel, .int .i64 L.stay]) L HS3.out.lay HVV.out.v
  rw [HX.out] at h3
  have HR3 := Lib.hid h3
  clear h3
  by_cases hz : x1 = 0
  · have e1 : decide ((x1, x2).1 = 0) = true := by simpa using hz
    rw [e1] at HR3
    subst hz
    clear e1
    go_wp2_with fail
    refine HR3.out.mono ?_; rintro e w3 ⟨rfl, hb3⟩
    have HB4 := Lib.hid (HS3.out.call hb3)
    clear hb3 HS3 HR3
    clear l0 l1 l2 l3 l4 l5 l6 l7 l8 l9
    go_wp2_with fail
    go_ret
    exact ⟨rfl, HB4.out.bel⟩
  · have e1 : decide ((x1, x2).1 = 0) = false := by simpa using hz
    rw [e1] at HR3
    have e2 : ((x1 : Int) == 0) = false := by simpa using hz
    clear e1
    go_wp2_with fail
    refine HR3.out.mono ?_; rintro e w3 ⟨rfl, hb3⟩
    have HB4 := Lib.hid (HS3.out.call hb3)
    clear hb3 HS3 HR3
    clear l0 l1 l2 l3 l4 l5 l6 l7 l8 l9
    go_wp2_with fail
    go_ret
    exact ⟨rfl, HB4.out.bel⟩

def emptyL : Lay := ⟨[], [], [], [], [], 0, 0, 0, 0, 0⟩
theorem emptyL_v (w : World) (D : Nat) : LayV w D (.agg #[.slice none 0 0, .slice none 0 0, .slice none 0 0, .slice none 0 0, .slice none 0 0, .int .i64 0, .int .i64 0, .int .i64 0, .int .i64 0, .int .i64 0]) emptyL :=
  ⟨.slice none 0 0, .slice none 0 0, .slice none 0 0, .slice none 0 0, .slice none 0 0, [], rfl,
    Rd.empty _ _, ⟨rfl, fun i h1 => absurd h1 (by simp)⟩, ⟨none, 0, rfl, fun h => absurd h (by decide)⟩, ⟨[], Rd.empty _ _, rfl, fun i h1 => absurd h1 (by simp)⟩, ⟨none, 0, rfl, fun h => absurd h (by decide)⟩, ⟨[], Rd.empty _ _, rfl, fun i h1 => absurd h1 (by simp)⟩⟩
theorem emptyL_first : firstL emptyL = (1, 0) := firstL_bad (k := 0) (p := 0) (by decide) (fun k' h => absurd h (by omega)) (by decide) (fun p' h => absurd h (by omega)) (by decide)
theorem emptyL_vf : Vf emptyL := ⟨⟨by decide, by decide, by decide, by decide⟩, by decide, by decide⟩

def d00 : Dr := ⟨0, 0, 0, 0, 0, 0, 0, 0, []⟩
theorem d00_first : firstL (makeL d00) = (0, 0) := by
  apply firstL_good
  intro k hk p hp
  have hn : ruleN (makeL d00) k ≤ 4 := by
    have key : ∀ k : Fin 17, ruleN (makeL d00) k.val ≤ 4 := by decide +kernel
    exact key ⟨k, hk⟩
  by_cases h9 : k = 9
  · subst h9
    exact absurd hp (by show ¬ p < (makeL d00).points.length; rw [show (makeL d00).points.length = 0 from by decide +kernel]; omega)
  · by_cases h1 : k = 1
    · subst h1
      have hp4 : p < (makeL d00).nodes.length := hp
      have e : ruleB (makeL d00) 1 p = ownPlaceB (makeL d00) p hp4 := by show (if h : p < (makeL d00).nodes.length then ownPlaceB (makeL d00) p h else false) = _; rw [dif_pos hp4]
      rw [e]
      have key : ∀ p : Fin (makeL d00).nodes.length, ownPlaceB (makeL d00) p.val p.isLt = true := by decide +kernel
      exact key ⟨p, hp4⟩
    · have key : ∀ (k : Fin 17) (p : Fin 4), k.val ≠ 9 → k.val ≠ 1 → p.val < ruleN (makeL d00) k.val → ruleB (makeL d00) k.val p.val = true := by decide +kernel
      exact key ⟨k, hk⟩ ⟨p, by omega⟩ h9 h1 hp
theorem d00_vf : Vf (makeL d00) := ⟨⟨by decide +kernel, by decide +kernel, by decide +kernel, by decide +kernel⟩, by decide +kernel, by decide +kernel⟩

set_option maxHeartbeats 4000000 in
theorem nothing_any (w : World) : Calls Tryz.prog 9 #[] w (RetL true w) := by
  have HMK : Hid (∀ W : World, Calls Tryz.prog 14 #[.agg #[.int .u8 0, .int .u8 0, .int .u8 0, .int .u16 0, .int .u16 0, .int .u8 0, .int .u8 0, .int .u8 0, .slice none 0 0]] W (RetLay (makeL d00) W)) := fun W => by
    refine (makeDraft_any W d00 (.slice none 0 0) ⟨by decide, by decide, by decide, by decide, by decide, by decide, by decide, by decide, by simp [d00]⟩ ⟨[], Rd.empty _ _, rfl, by simp [d00]⟩).mono ?_
    rintro x w' ⟨vN, vS, vP, vQ, rfl, hF, hb⟩
    exact ⟨_, rfl, IsLay.v ⟨vN, vS, vP, vQ, _, rfl, hF⟩, hb⟩
  have h1 := first_any w _ emptyL (emptyL_v w w.heap.size) emptyL_vf
  rw [emptyL_first] at h1
  have HRI : Hid (∀ (W : World) (v : Value), LayV W W.heap.size v (makeL d00) → Calls Tryz.prog 12 #[v] W (RetL true W)) := fun W v h => by
    have := right_any W v _ h d00_vf
    rw [d00_first] at this; exact this
  have H1 := Lib.hid h1
  clear h1
  go_enter Tryz.func9, Tryz.ntmps9
  go_wp2_with fail
  refine H1.out.mono ?_; rintro e w1 ⟨rfl, hb1⟩
  have HB1 := Lib.hid hb1
  clear hb1
  go_wp2_with fail
  refine (HMK.out w1).mono ?_; rintro e w2 ⟨vL, rfl, hL, hb2⟩
  have HB2 := Lib.hid (HB1.out.trans (hb2.mono HB1.out.size))
  have HR2 := Lib.hid (HRI.out w2 vL hL)
  clear hb2 hL
  go_wp2_with fail
  refine HR2.out.mono ?_; rintro e w3 ⟨rfl, hb3⟩
  have HB3 := Lib.hid (HB2.out.trans (hb3.mono HB2.out.size))
  clear hb3
  go_wp2_with fail
  go_ret
  exact ⟨rfl, HB3.out⟩
end Go.Proofs.YtagkgejdammflaaGreat
