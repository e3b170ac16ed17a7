/- The program's rules on ways: does the track go on? -/
import Derived.Test.YtagkgejdammflaaGreatV8
import Derived.Deep.RegionHeld3
import Derived.Test.YtagkgejdammflaaGreatNB
namespace Go.Proofs.YtagkgejdammflaaGreat
open Go.RowKit Fl
set_option maxRecDepth 100000

def wd (ps : List (Nat × Nat)) (k : Nat) : Nat × Nat := ps.getD k (0, 0)
/-- A section's other node. -/
def otherN (s : Int × Int × Int) (n : Int) : Int := if s.2.1 = n then s.2.2 else s.2.1
def secL (L : Lay) (s : Int) : Int × Int × Int := L.secs.getD s.toNat (0, 0, 0)
theorem secL_nat (L : Lay) (k : Nat) (h : k < L.secs.length) : secL L (k : Int) = L.secs[k] := by simp [secL, h]
/-- Each section's nodes are there. -/
def Noded (L : Lay) : Prop := ∀ s ∈ L.secs, ∃ a b : Nat, s.2.1 = (a : Int) ∧ s.2.2 = (b : Int) ∧ a < L.nodes.length ∧ b < L.nodes.length

set_option maxHeartbeats 4000000 in
theorem beyond_trk (w : World) (D t c0 c1 : Nat) (A0 A1 : Option Addr) (vP vQ vR vg : Value) (ps : List (Nat × Nat)) (L : Lay) (hk : Trk w D t (.slice A0 L.nodes.length c0) (.slice A1 L.secs.length c1) vP vQ vR vg ps L) (hD : D ≤ w.heap.size) (hN : Noded L) (i : Nat) (hi : i < L.secs.length) (n : Int) :
    Calls Tryz.prog 82 #[.pointer (some ⟨t, 0, none⟩), .int .i64 i, .int .i64 n] w fun e w' => e = .returned (.complex .f64 (wd ps (otherN L.secs[i] n).toNat).1 (wd ps (otherN L.secs[i] n).toNat).2) ∧ Below w.heap.size w w' := by
  have f0 := hk.row.cell 0; have f1 := hk.row.cell 1
  simp only [List.getElem?_toArray, List.getElem?_cons_zero, List.getElem?_cons_succ] at f0 f1
  have hd := hk.data
  obtain ⟨A', c', hv, hx⟩ := hd.s
  obtain ⟨sb, so, hA, hsb, hc⟩ := hx (by omega)
  injection hv with e1 _ _
  subst e1
  subst hA
  obtain ⟨q0, q1, q2⟩ := hc i hi
  obtain ⟨a, b, ha, hb, han, hbn⟩ := hN _ (List.getElem_mem hi)
  have hi2 : (i : Int) < (L.secs.length : Int) := by omega
  have hi3 : (0 : Int) ≤ (i : Int) := by omega
  have hps : ps.length = L.nodes.length := hd.f.1
  obtain ⟨nb, no, hA0, hnb, ca⟩ := hd.n.at (i := a) (u := .complex .f64 (wd ps a).1 (wd ps a).2) (by simp [nvals, wd, hps, han])
  obtain ⟨nb', no', hA0', _, cb⟩ := hd.n.at (i := b) (u := .complex .f64 (wd ps b).1 (wd ps b).2) (by simp [nvals, wd, hps, hbn])
  subst hA0
  injection hA0' with hA0'
  injection hA0' with z1 z2
  subst z1 z2
  generalize L.secs[i] = z at *
  obtain ⟨ln, a', b'⟩ := z
  simp only at q0 q1 q2 ha hb
  subst ha hb
  have HB : Hid (Below w.heap.size w (w.alloc (.cells #[.int .i64 ln, .int .i64 (a : Int), .int .i64 (b : Int)] 39))) := (Below.refl _ _).alloc (Nat.le_refl _) _
  have HR := Lib.hid (Row.new w 39 #[.int .i64 ln, .int .i64 (a : Int), .int .i64 (b : Int)])
  have g0 := (HB.out.cell (p := ⟨t, 0, none⟩) (Nat.lt_of_lt_of_le hk.lt hD)).trans f0
  have ga := (HB.out.cell (p := ⟨nb, no + a, none⟩) (Nat.lt_of_lt_of_le hnb hD)).trans ca
  have gb := (HB.out.cell (p := ⟨nb, no + b, none⟩) (Nat.lt_of_lt_of_le hnb hD)).trans cb
  have HG0 := Lib.hid g0; have HGA := Lib.hid ga; have HGB := Lib.hid gb
  have hanI : (a : Int) < (L.nodes.length : Int) := by omega
  have hbnI : (b : Int) < (L.nodes.length : Int) := by omega
  have han0 : (0 : Int) ≤ (a : Int) := by omega
  have hbn0 : (0 : Int) ≤ (b : Int) := by omega
  generalize L.nodes.length = nl at *
  clear hk hx hc hD hN hd hps hnb ca cb g0 ga gb
  by_cases hz : (a : Int) = n
  · have ho : otherN (ln, (a : Int), (b : Int)) n = (b : Int) := by unfold otherN; rw [if_pos hz]
    rw [ho, Int.toNat_natCast]
    have hz2 : ((a : Int) == n) = true := by simpa using hz
    clear hz ho
    generalize wd ps b = p at *
    obtain ⟨p1, p2⟩ := p
    simp only at HGB ⊢
    go_enter Tryz.func82, Tryz.ntmps82
    go_upto_region 2 with (fail)
    have g1 := HR.out.cell 1; have g2 := HR.out.cell 2
    simp only [List.getElem?_toArray, List.getElem?_cons_zero, List.getElem?_cons_succ] at g1 g2
    have g0 := HG0.out; have gb := HGB.out
    generalize w.alloc (.cells #[.int .i64 ln, .int .i64 (a : Int), .int .i64 (b : Int)] 39) = W at *
    clear q0 q1 q2 HR f0 f1
    go_wp2_with fail
    go_quiet (fail)
    go_wp2_with fail
    go_ret
    exact ⟨rfl, below_drewN HB.out _⟩
  · have ho : otherN (ln, (a : Int), (b : Int)) n = (a : Int) := by unfold otherN; rw [if_neg hz]
    rw [ho, Int.toNat_natCast]
    have hz2 : ((a : Int) == n) = false := by simpa using hz
    clear hz ho
    generalize wd ps a = p at *
    obtain ⟨p1, p2⟩ := p
    simp only at HGA ⊢
    go_enter Tryz.func82, Tryz.ntmps82
    go_upto_region 2 with (fail)
    have g1 := HR.out.cell 1; have g2 := HR.out.cell 2
    simp only [List.getElem?_toArray, List.getElem?_cons_zero, List.getElem?_cons_succ] at g1 g2
    have g0 := HG0.out; have ga := HGA.out
    generalize w.alloc (.cells #[.int .i64 ln, .int .i64 (a : Int), .int .i64 (b : Int)] 39) = W at *
    clear q0 q1 q2 HR f0 f1
    go_wp2_with fail
    go_quiet (fail)
    go_wp2_with fail
    go_ret
    exact ⟨rfl, below_drewN HB.out _⟩

theorem Trk.keep {w w' : World} {B D t : Nat} {vN vS vP vQ vR vg : Value} {ps : List (Nat × Nat)} {L : Lay} (hk : Trk w D t vN vS vP vQ vR vg ps L) (hb : Below B w w') (hD : D ≤ B) : Trk w' D t vN vS vP vQ vR vg ps L :=
  have hc : ∀ p : Addr, p.block < D → w'.cell? p = w.cell? p := fun p hp => hb.cell (p := p) (Nat.lt_of_lt_of_le hp hD)
  ⟨Below.row hb hk.row (Nat.lt_of_lt_of_le hk.lt hD), hk.lt, ⟨hk.data.n.mono (Nat.le_refl _) hc, hk.data.f, hk.data.s.mono (Nat.le_refl _) hc, hk.data.p.mono (Nat.le_refl _) hc, hk.data.q.mono (Nat.le_refl _) hc, hk.data.r.mono (Nat.le_refl _) hc⟩, hk.gr.keep hb hD⟩

/-- Does the track go on, from a section by a node into another one? -/
def leadsB (L : Lay) (i n j : Int) : Bool :=
  decide (0 < ((nodeAtL L n).1 - (nodeAtL L (otherN (secL L i) n)).1) * ((nodeAtL L (otherN (secL L j) n)).1 - (nodeAtL L n).1) + ((nodeAtL L n).2 - (nodeAtL L (otherN (secL L i) n)).2) * ((nodeAtL L (otherN (secL L j) n)).2 - (nodeAtL L n).2))

theorem other_at {L : Lay} (hN : Noded L) (i : Nat) (hi : i < L.secs.length) (n : Int) : ∃ k : Nat, otherN L.secs[i] n = (k : Int) ∧ k < L.nodes.length := by
  obtain ⟨a, b, ha, hb, han, hbn⟩ := hN _ (List.getElem_mem hi)
  unfold otherN
  split
  · exact ⟨b, hb, hbn⟩
  · exact ⟨a, ha, han⟩
theorem wd_fl {ps : List (Nat × Nat)} {L : Lay} (hf : FlN ps L.nodes) (k : Nat) (hk : k < L.nodes.length) : Fl 0 (wd ps k).1 (nodeAtL L (k : Int)).1 ∧ Fl 0 (wd ps k).2 (nodeAtL L (k : Int)).2 := by
  have hkp : k < ps.length := by rw [hf.1]; exact hk
  have h := hf.2 k hkp hk
  rw [nodeAtL_nat L k hk]
  have e : wd ps k = ps[k] := by simp [wd, hkp]
  rw [e]; exact h
theorem placed_at {L : Lay} (hp : Placed L) (k : Nat) (hk : k < L.nodes.length) : (nodeAtL L (k : Int)).1.natAbs ≤ 1000000 ∧ (nodeAtL L (k : Int)).2.natAbs ≤ 1000000 := by
  rw [nodeAtL_nat L k hk]; exact hp _ (List.getElem_mem hk)

set_option maxHeartbeats 4000000 in
theorem leads_any (w : World) (D : Nat) (v : Value) (L : Lay) (i n j : Nat) (h : IsTrk w D v L) (hD : D ≤ w.heap.size) (hN : Noded L) (hp : Placed L) (hi : i < L.secs.length) (hj : j < L.secs.length) (hn : n < L.nodes.length) :
    Calls Tryz.prog 66 #[v, .int .i64 i, .int .i64 n, .int .i64 j] w (RetL (leadsB L i n j) w) := by
  obtain ⟨t, A0, c0, A1, c1, A2, c2, A3, c3, A4, c4, vg, ps, rfl, hk⟩ := h.slices
  have f0 := hk.row.cell 0
  simp only [List.getElem?_toArray, List.getElem?_cons_zero] at f0
  have hf := hk.data.f
  have hps : ps.length = L.nodes.length := hf.1
  obtain ⟨nb, no, hA0, hnb, cn⟩ := hk.data.n.at (i := n) (u := .complex .f64 (wd ps n).1 (wd ps n).2) (by simp [nvals, wd, hps, hn])
  subst hA0
  obtain ⟨ki, hki, hkil⟩ := other_at hN i hi (n : Int)
  obtain ⟨kj, hkj, hkjl⟩ := other_at hN j hj (n : Int)
  have HBI : Hid (∀ W, Below w.heap.size w W → Calls Tryz.prog 82 #[.pointer (some ⟨t, 0, none⟩), .int .i64 i, .int .i64 n] W fun e w' => e = .returned (.complex .f64 (wd ps ki).1 (wd ps ki).2) ∧ Below W.heap.size W w') := fun W hW => by
    have h := beyond_trk W D t c0 c1 _ A1 _ _ _ vg ps L (hk.keep hW hD) (by have := hW.size; omega) hN i hi (n : Int)
    rw [hki, Int.toNat_natCast] at h
    exact h
  have HBJ : Hid (∀ W, Below w.heap.size w W → Calls Tryz.prog 82 #[.pointer (some ⟨t, 0, none⟩), .int .i64 j, .int .i64 n] W fun e w' => e = .returned (.complex .f64 (wd ps kj).1 (wd ps kj).2) ∧ Below W.heap.size W w') := fun W hW => by
    have h := beyond_trk W D t c0 c1 _ A1 _ _ _ vg ps L (hk.keep hW hD) (by have := hW.size; omega) hN j hj (n : Int)
    rw [hkj, Int.toNat_natCast] at h
    exact h
  have h1 := wd_fl hf ki hkil; have h2 := wd_fl hf n hn; have h3 := wd_fl hf kj hkjl
  have b1 := placed_at hp ki hkil; have b2 := placed_at hp n hn; have b3 := placed_at hp kj hkjl
  have hle : leadsB L i n j = decide (0 < ((nodeAtL L n).1 - (nodeAtL L ki).1) * ((nodeAtL L kj).1 - (nodeAtL L n).1) + ((nodeAtL L n).2 - (nodeAtL L ki).2) * ((nodeAtL L kj).2 - (nodeAtL L n).2)) := by
    unfold leadsB
    rw [secL_nat L i hi, secL_nat L j hj, hki, hkj]
  rw [hle]
  have HAH : Hid (∀ W, Calls Tryz.prog 81 #[.complex .f64 (wd ps ki).1 (wd ps ki).2, .complex .f64 (wd ps n).1 (wd ps n).2, .complex .f64 (wd ps kj).1 (wd ps kj).2] W fun e w' => e = .returned (.bool (decide (0 < ((nodeAtL L n).1 - (nodeAtL L ki).1) * ((nodeAtL L kj).1 - (nodeAtL L n).1) + ((nodeAtL L n).2 - (nodeAtL L ki).2) * ((nodeAtL L kj).2 - (nodeAtL L n).2)))) ∧ W = w') := fun W =>
    ahead_any _ _ _ _ _ _ _ _ _ _ _ _ W h1.1 h1.2 h2.1 h2.2 h3.1 h3.2 (by omega) (by omega) (by omega) (by omega)
  generalize decide (0 < ((nodeAtL L n).1 - (nodeAtL L ki).1) * ((nodeAtL L kj).1 - (nodeAtL L n).1) + ((nodeAtL L n).2 - (nodeAtL L ki).2) * ((nodeAtL L kj).2 - (nodeAtL L n).2)) = bb at *
  have hnI : (n : Int) < (L.nodes.length : Int) := by omega
  have hn0 : (0 : Int) ≤ (n : Int) := by omega
  generalize wd ps ki = p1 at *
  generalize wd ps n = p2 at *
  generalize wd ps kj = p3 at *
  obtain ⟨x1, y1⟩ := p1
  obtain ⟨x, y⟩ := p2
  obtain ⟨x3, y3⟩ := p3
  simp only at HBI HBJ HAH cn
  have ht_wd0 : t < w.drew.heap.size := Nat.lt_of_lt_of_le hk.lt hD
  have hn_wd0 : nb < w.drew.heap.size := Nat.lt_of_lt_of_le hnb hD
  have s_wd0 : w.drew.cell? ⟨t, 0, none⟩ = some (.slice (some ⟨nb, no, none⟩) L.nodes.length c0) ∧ w.drew.cell? ⟨nb, no + n, none⟩ = some (.complex .f64 x y) := ⟨f0, cn⟩
  have HB_wd0 : Hid (Below w.heap.size w w.drew) := below_drewN (Below.refl _ _) 1
  clear h hk f0 cn hD hN hp hf hps h1 h2 h3 b1 b2 b3 hle hki hkj hkil hkjl hi hj hnb
  go_enter Tryz.func66, Tryz.ntmps66
  go_upto_region 1 with (fail)
  go_region_held3 (fun w' => w'.cell? ⟨t, 0, none⟩ = some (.slice (some ⟨nb, no, none⟩) L.nodes.length c0) ∧ w'.cell? ⟨nb, no + n, none⟩ = some (.complex .f64 x y)) (first | exact s_w2 | exact s_w1 | exact s_wd0) (first | (go_at_call 82; (with_reducible refine (HBI.out w.drew HB_wd0.out).mono ?_); rintro e w1 ⟨rfl, hb1⟩; have s_w1 : w1.cell? ⟨t, 0, none⟩ = some (.slice (some ⟨nb, no, none⟩) L.nodes.length c0) ∧ w1.cell? ⟨nb, no + n, none⟩ = some (.complex .f64 x y) := ⟨(hb1.cell (p := ⟨t, 0, none⟩) ht_wd0).trans s_wd0.1, (hb1.cell (p := ⟨nb, no + n, none⟩) hn_wd0).trans s_wd0.2⟩; have ht_w1 := Nat.lt_of_lt_of_le ht_wd0 hb1.size; have hn_w1 := Nat.lt_of_lt_of_le hn_wd0 hb1.size; have HB_w1 : Hid (Below w.heap.size w w1) := HB_wd0.out.trans (hb1.mono HB_wd0.out.size); clear hb1) | (go_at_call 82; (with_reducible refine (HBJ.out w1 HB_w1.out).mono ?_); rintro e w2 ⟨rfl, hb2⟩; have s_w2 : w2.cell? ⟨t, 0, none⟩ = some (.slice (some ⟨nb, no, none⟩) L.nodes.length c0) ∧ w2.cell? ⟨nb, no + n, none⟩ = some (.complex .f64 x y) := ⟨(hb2.cell (p := ⟨t, 0, none⟩) ht_w1).trans s_w1.1, (hb2.cell (p := ⟨nb, no + n, none⟩) hn_w1).trans s_w1.2⟩; have ht_w2 := Nat.lt_of_lt_of_le ht_w1 hb2.size; have hn_w2 := Nat.lt_of_lt_of_le hn_w1 hb2.size; have HB_w2 : Hid (Below w.heap.size w w2) := HB_w1.out.trans (hb2.mono HB_w1.out.size); clear hb2) | (go_at_call 81; (with_reducible refine (HAH.out _).mono ?_); rintro e w' ⟨rfl, rfl⟩))
  go_wp2_with fail
  go_ret
  exact ⟨rfl, HB_w2.out⟩

end Go.Proofs.YtagkgejdammflaaGreat
