/- Contract: of the document: does the track go on? -/
import Derived.Test.YtagkgejdammflaaGreatV14
namespace Go.Proofs.YtagkgejdammflaaGreat
open Go.RowKit Fl
set_option maxRecDepth 100000

set_option maxHeartbeats 8000000 in
theorem refOn_any (w : World) (v : Value) (ps : List (Nat × Nat)) (L : Lay) (h : LayW w w.heap.size v ps L) (hN : Noded L) (hp : Placed L) (i j n : Nat) (hi : i < L.secs.length) (hj : j < L.secs.length) (hn : n < L.nodes.length) :
    Calls Tryz.prog 54 #[v, .int .i64 i, .int .i64 j, .int .i64 n] w (RetL (leadsB L i n j) w) := by
  have HW := Lib.hid h
  obtain ⟨A0, c0, A1, c1, A2, c2, A3, c3, A4, c4, rfl, hd⟩ := h
  have hf := hd.f
  have hps : ps.length = L.nodes.length := hf.1
  obtain ⟨nb, no, hA0, hnb, cn⟩ := hd.n.at (i := n) (u := .complex .f64 (wd ps n).1 (wd ps n).2) (by simp [nvals, wd, hps, hn])
  subst hA0
  obtain ⟨ki, hki, hkil⟩ := other_at hN i hi (n : Int)
  obtain ⟨kj, hkj, hkjl⟩ := other_at hN j hj (n : Int)
  have h1 := wd_fl hf ki hkil; have h2 := wd_fl hf n hn; have h3 := wd_fl hf kj hkjl
  have b1 := placed_at hp ki hkil; have b2 := placed_at hp n hn; have b3 := placed_at hp kj hkjl
  have hle : leadsB L i n j = decide (0 < ((nodeAtL L n).1 - (nodeAtL L ki).1) * ((nodeAtL L kj).1 - (nodeAtL L n).1) + ((nodeAtL L n).2 - (nodeAtL L ki).2) * ((nodeAtL L kj).2 - (nodeAtL L n).2)) := by
    unfold leadsB
    rw [secL_nat L i hi, secL_nat L j hj, hki, hkj]
  rw [hle]
  obtain ⟨r1, i1, o1, f1, f2⟩ := csub_fl h2.1 h2.2 h1.1 h1.2 (by omega) (by omega)
  obtain ⟨r2, i2, o2, f3, f4⟩ := csub_fl h3.1 h3.2 h2.1 h2.2 (by omega) (by omega)
  have HDT := Lib.hid (fun W => refDot_any r1 i1 r2 i2 _ _ _ _ W f1 f2 f3 f4 (by omega) (by omega) (by omega) (by omega))
  have hbn := (Below.refl w.heap.size w).alloc (Nat.le_refl _) (.cells #[.slice (some ⟨nb, no, none⟩) L.nodes.length c0, .slice A1 L.secs.length c1, .slice A2 L.parts.length c2, .slice A3 L.points.length c3, .slice A4 L.routes.length c4, .int .i64 L.speed, .int .i64 L.mute, .int .i64 L.wait, .int .i64 L.cancel, .int .i64 L.stay] 33)
  have HBA := Lib.hid hbn
  have HRA := Lib.hid (Row.new w 33 #[.slice (some ⟨nb, no, none⟩) L.nodes.length c0, .slice A1 L.secs.length c1, .slice A2 L.parts.length c2, .slice A3 L.points.length c3, .slice A4 L.routes.length c4, .int .i64 L.speed, .int .i64 L.mute, .int .i64 L.wait, .int .i64 L.cancel, .int .i64 L.stay])
  have HSN : Hid (w.heap.size ≤ (w.alloc (.cells #[.slice (some ⟨nb, no, none⟩) L.nodes.length c0, .slice A1 L.secs.length c1, .slice A2 L.parts.length c2, .slice A3 L.points.length c3, .slice A4 L.routes.length c4, .int .i64 L.speed, .int .i64 L.mute, .int .i64 L.wait, .int .i64 L.cancel, .int .i64 L.stay] 33)).heap.size) := hbn.size
  have HBI : Hid (∀ W, Below w.heap.size w W → Calls Tryz.prog 71 #[.agg #[.slice (some ⟨nb, no, none⟩) L.nodes.length c0, .slice A1 L.secs.length c1, .slice A2 L.parts.length c2, .slice A3 L.points.length c3, .slice A4 L.routes.length c4, .int .i64 L.speed, .int .i64 L.mute, .int .i64 L.wait, .int .i64 L.cancel, .int .i64 L.stay], .int .i64 i, .int .i64 n] W fun e w' => e = .returned (.complex .f64 (wd ps ki).1 (wd ps ki).2) ∧ Below W.heap.size W w') := fun W hW => by
    have h := refOther_any W _ ps L (HW.out.up hW) hN i hi (n : Int)
    rw [hki, Int.toNat_natCast] at h
    exact h
  have HBJ : Hid (∀ W, Below w.heap.size w W → Calls Tryz.prog 71 #[.agg #[.slice (some ⟨nb, no, none⟩) L.nodes.length c0, .slice A1 L.secs.length c1, .slice A2 L.parts.length c2, .slice A3 L.points.length c3, .slice A4 L.routes.length c4, .int .i64 L.speed, .int .i64 L.mute, .int .i64 L.wait, .int .i64 L.cancel, .int .i64 L.stay], .int .i64 j, .int .i64 n] W fun e w' => e = .returned (.complex .f64 (wd ps kj).1 (wd ps kj).2) ∧ Below W.heap.size W w') := fun W hW => by
    have h := refOther_any W _ ps L (HW.out.up hW) hN j hj (n : Int)
    rw [hkj, Int.toNat_natCast] at h
    exact h
  have hcn := (hbn.cell (p := ⟨nb, no + n, none⟩) hnb).trans cn
  have HNB : Hid (nb < (w.alloc (.cells #[.slice (some ⟨nb, no, none⟩) L.nodes.length c0, .slice A1 L.secs.length c1, .slice A2 L.parts.length c2, .slice A3 L.points.length c3, .slice A4 L.routes.length c4, .int .i64 L.speed, .int .i64 L.mute, .int .i64 L.wait, .int .i64 L.cancel, .int .i64 L.stay] 33)).heap.size) := Nat.lt_of_lt_of_le hnb hbn.size
  have hnI : (n : Int) < (L.nodes.length : Int) := by omega
  have hn0I : (0 : Int) ≤ (n : Int) := by omega
  obtain ⟨DD, hDD⟩ : ∃ D, D = ((nodeAtL L n).1 - (nodeAtL L ki).1) * ((nodeAtL L kj).1 - (nodeAtL L n).1) + ((nodeAtL L n).2 - (nodeAtL L ki).2) * ((nodeAtL L kj).2 - (nodeAtL L n).2) := ⟨_, rfl⟩
  rw [← hDD] at HDT ⊢
  clear HW hd hf hps cn h1 h2 h3 b1 b2 b3 hle f1 f2 f3 f4 hki hkj hkil hkjl hN hp hi hj hbn hnb hDD
  generalize wd ps ki = p1 at *
  generalize wd ps n = p2 at *
  generalize wd ps kj = p3 at *
  obtain ⟨x1, y1⟩ := p1
  obtain ⟨x, y⟩ := p2
  obtain ⟨x3, y3⟩ := p3
  simp only at HBI HBJ hcn o1 o2
  go_enter Tryz.func54, Tryz.ntmps54
  go_upto_region 1 with (fail)
  obtain ⟨n0, hn0⟩ : ∃ n, n = w.heap.size := ⟨_, rfl⟩
  rw [← hn0] at HRA ⊢
  clear hn0
  generalize w.alloc (.cells #[.slice (some ⟨nb, no, none⟩) L.nodes.length c0, .slice A1 L.secs.length c1, .slice A2 L.parts.length c2, .slice A3 L.points.length c3, .slice A4 L.routes.length c4, .int .i64 L.speed, .int .i64 L.mute, .int .i64 L.wait, .int .i64 L.cancel, .int .i64 L.stay] 33) = W0 at *
  have HBI2 : Hid (∀ W, Below W0.heap.size W0 W → Below w.heap.size w W) := fun W hW => HBA.out.trans (hW.mono HSN.out)
  have ht_wd0 : n0 < W0.drew.heap.size := HRA.out.lt
  have hn_wd0 : nb < W0.drew.heap.size := HNB.out
  have s_wd0 : W0.drew.cell? ⟨n0, 0, none⟩ = some (.slice (some ⟨nb, no, none⟩) L.nodes.length c0) ∧ W0.drew.cell? ⟨n0, 1, none⟩ = some (.slice A1 L.secs.length c1) ∧ W0.drew.cell? ⟨n0, 2, none⟩ = some (.slice A2 L.parts.length c2) ∧ W0.drew.cell? ⟨n0, 3, none⟩ = some (.slice A3 L.points.length c3) ∧ W0.drew.cell? ⟨n0, 4, none⟩ = some (.slice A4 L.routes.length c4) ∧ W0.drew.cell? ⟨n0, 5, none⟩ = some (.int .i64 L.speed) ∧ W0.drew.cell? ⟨n0, 6, none⟩ = some (.int .i64 L.mute) ∧ W0.drew.cell? ⟨n0, 7, none⟩ = some (.int .i64 L.wait) ∧ W0.drew.cell? ⟨n0, 8, none⟩ = some (.int .i64 L.cancel) ∧ W0.drew.cell? ⟨n0, 9, none⟩ = some (.int .i64 L.stay) ∧ W0.drew.cell? ⟨nb, no + n, none⟩ = some (.complex .f64 x y) := ⟨(by have h := HRA.out.cell 0; simpa using h), (by have h := HRA.out.cell 1; simpa using h), (by have h := HRA.out.cell 2; simpa using h), (by have h := HRA.out.cell 3; simpa using h), (by have h := HRA.out.cell 4; simpa using h), (by have h := HRA.out.cell 5; simpa using h), (by have h := HRA.out.cell 6; simpa using h), (by have h := HRA.out.cell 7; simpa using h), (by have h := HRA.out.cell 8; simpa using h), (by have h := HRA.out.cell 9; simpa using h), hcn⟩
  have HB_wd0 : Hid (Below W0.heap.size W0 W0.drew) := below_drewN (Below.refl _ _) 1
  clear hcn HRA HNB
  go_region_held3 (fun w' => w'.cell? ⟨n0, 0, none⟩ = some (.slice (some ⟨nb, no, none⟩) L.nodes.length c0) ∧ w'.cell? ⟨n0, 1, none⟩ = some (.slice A1 L.secs.length c1) ∧ w'.cell? ⟨n0, 2, none⟩ = some (.slice A2 L.parts.length c2) ∧ w'.cell? ⟨n0, 3, none⟩ = some (.slice A3 L.points.length c3) ∧ w'.cell? ⟨n0, 4, none⟩ = some (.slice A4 L.routes.length c4) ∧ w'.cell? ⟨n0, 5, none⟩ = some (.int .i64 L.speed) ∧ w'.cell? ⟨n0, 6, none⟩ = some (.int .i64 L.mute) ∧ w'.cell? ⟨n0, 7, none⟩ = some (.int .i64 L.wait) ∧ w'.cell? ⟨n0, 8, none⟩ = some (.int .i64 L.cancel) ∧ w'.cell? ⟨n0, 9, none⟩ = some (.int .i64 L.stay) ∧ w'.cell? ⟨nb, no + n, none⟩ = some (.complex .f64 x y)) (first | exact s_w2 | exact s_w1 | exact s_wd0) (first | (go_at_call 71; (with_reducible refine (HBI.out W0.drew (HBI2.out _ HB_wd0.out)).mono ?_); rintro e w1 ⟨rfl, hb1⟩; have s_w1 : w1.cell? ⟨n0, 0, none⟩ = some (.slice (some ⟨nb, no, none⟩) L.nodes.length c0) ∧ w1.cell? ⟨n0, 1, none⟩ = some (.slice A1 L.secs.length c1) ∧ w1.cell? ⟨n0, 2, none⟩ = some (.slice A2 L.parts.length c2) ∧ w1.cell? ⟨n0, 3, none⟩ = some (.slice A3 L.points.length c3) ∧ w1.cell? ⟨n0, 4, none⟩ = some (.slice A4 L.routes.length c4) ∧ w1.cell? ⟨n0, 5, none⟩ = some (.int .i64 L.speed) ∧ w1.cell? ⟨n0, 6, none⟩ = some (.int .i64 L.mute) ∧ w1.cell? ⟨n0, 7, none⟩ = some (.int .i64 L.wait) ∧ w1.cell? ⟨n0, 8, none⟩ = some (.int .i64 L.cancel) ∧ w1.cell? ⟨n0, 9, none⟩ = some (.int .i64 L.stay) ∧ w1.cell? ⟨nb, no + n, none⟩ = some (.complex .f64 x y) := ⟨(hb1.cell (p := ⟨n0, 0, none⟩) ht_wd0).trans s_wd0.1, (hb1.cell (p := ⟨n0, 1, none⟩) ht_wd0).trans s_wd0.2.1, (hb1.cell (p := ⟨n0, 2, none⟩) ht_wd0).trans s_wd0.2.2.1, (hb1.cell (p := ⟨n0, 3, none⟩) ht_wd0).trans s_wd0.2.2.2.1, (hb1.cell (p := ⟨n0, 4, none⟩) ht_wd0).trans s_wd0.2.2.2.2.1, (hb1.cell (p := ⟨n0, 5, none⟩) ht_wd0).trans s_wd0.2.2.2.2.2.1, (hb1.cell (p := ⟨n0, 6, none⟩) ht_wd0).trans s_wd0.2.2.2.2.2.2.1, (hb1.cell (p := ⟨n0, 7, none⟩) ht_wd0).trans s_wd0.2.2.2.2.2.2.2.1, (hb1.cell (p := ⟨n0, 8, none⟩) ht_wd0).trans s_wd0.2.2.2.2.2.2.2.2.1, (hb1.cell (p := ⟨n0, 9, none⟩) ht_wd0).trans s_wd0.2.2.2.2.2.2.2.2.2.1, (hb1.cell (p := ⟨nb, no + n, none⟩) hn_wd0).trans s_wd0.2.2.2.2.2.2.2.2.2.2⟩; have ht_w1 := Nat.lt_of_lt_of_le ht_wd0 hb1.size; have hn_w1 := Nat.lt_of_lt_of_le hn_wd0 hb1.size; have HB_w1 : Hid (Below W0.heap.size W0 w1) := HB_wd0.out.trans (hb1.mono HB_wd0.out.size); clear hb1) | (go_at_call 71; (with_reducible refine (HBJ.out w1 (HBI2.out _ HB_w1.out)).mono ?_); rintro e w2 ⟨rfl, hb2⟩; have s_w2 : w2.cell? ⟨n0, 0, none⟩ = some (.slice (some ⟨nb, no, none⟩) L.nodes.length c0) ∧ w2.cell? ⟨n0, 1, none⟩ = some (.slice A1 L.secs.length c1) ∧ w2.cell? ⟨n0, 2, none⟩ = some (.slice A2 L.parts.length c2) ∧ w2.cell? ⟨n0, 3, none⟩ = some (.slice A3 L.points.length c3) ∧ w2.cell? ⟨n0, 4, none⟩ = some (.slice A4 L.routes.length c4) ∧ w2.cell? ⟨n0, 5, none⟩ = some (.int .i64 L.speed) ∧ w2.cell? ⟨n0, 6, none⟩ = some (.int .i64 L.mute) ∧ w2.cell? ⟨n0, 7, none⟩ = some (.int .i64 L.wait) ∧ w2.cell? ⟨n0, 8, none⟩ = some (.int .i64 L.cancel) ∧ w2.cell? ⟨n0, 9, none⟩ = some (.int .i64 L.stay) ∧ w2.cell? ⟨nb, no + n, none⟩ = some (.complex .f64 x y) := ⟨(hb2.cell (p := ⟨n0, 0, none⟩) ht_w1).trans s_w1.1, (hb2.cell (p := ⟨n0, 1, none⟩) ht_w1).trans s_w1.2.1, (hb2.cell (p := ⟨n0, 2, none⟩) ht_w1).trans s_w1.2.2.1, (hb2.cell (p := ⟨n0, 3, none⟩) ht_w1).trans s_w1.2.2.2.1, (hb2.cell (p := ⟨n0, 4, none⟩) ht_w1).trans s_w1.2.2.2.2.1, (hb2.cell (p := ⟨n0, 5, none⟩) ht_w1).trans s_w1.2.2.2.2.2.1, (hb2.cell (p := ⟨n0, 6, none⟩) ht_w1).trans s_w1.2.2.2.2.2.2.1, (hb2.cell (p := ⟨n0, 7, none⟩) ht_w1).trans s_w1.2.2.2.2.2.2.2.1, (hb2.cell (p := ⟨n0, 8, none⟩) ht_w1).trans s_w1.2.2.2.2.2.2.2.2.1, (hb2.cell (p := ⟨n0, 9, none⟩) ht_w1).trans s_w1.2.2.2.2.2.2.2.2.2.1, (hb2.cell (p := ⟨nb, no + n, none⟩) hn_w1).trans s_w1.2.2.2.2.2.2.2.2.2.2⟩; have ht_w2 := Nat.lt_of_lt_of_le ht_w1 hb2.size; have hn_w2 := Nat.lt_of_lt_of_le hn_w1 hb2.size; have HB_w2 : Hid (Below W0.heap.size W0 w2) := HB_w1.out.trans (hb2.mono HB_w1.out.size); clear hb2))
  have HBE := Lib.hid (HBI2.out _ HB_w2.out)
  clear s_w2 s_w1 s_wd0 ht_wd0 ht_w1 ht_w2 hn_wd0 hn_w1 hn_w2
  go_wp2_with fail
  refine (HDT.out w2).mono ?_; rintro e w' ⟨rfl, rfl⟩
  go_wp2_with fail
  go_ret
  exact ⟨rfl, HBE.out⟩

end Go.Proofs.YtagkgejdammflaaGreat
