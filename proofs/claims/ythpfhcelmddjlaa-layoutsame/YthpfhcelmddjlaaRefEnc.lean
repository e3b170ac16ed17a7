/- Contract: the document's Encode. -/
import Derived.Test.YthpfhcelmddjlaaRefPut
namespace Go.Proofs.Ythpfhcelmddjlaa
open Go.RowKit Fl
set_option maxRecDepth 100000

theorem Below.row {B k : Nat} {w w' : World} (h : Below B w w') {t : TypeId} {cs : Array Value} (hr : Row w k t cs) (hk : k < B) : Row w' k t cs := (h.block k hk).trans hr

theorem Rd.litI2 (w : World) (o : Obj) (xs : List Int) (n : Nat) (hn : xs.length = n) : Rd ((w.alloc o).alloc (.cells (ivals xs).toArray 3)) ((w.alloc o).alloc (.cells (ivals xs).toArray 3)).heap.size (.slice (some ⟨w.heap.size + 1, 0, none⟩) n n) (ivals xs) := by
  have := Rd.litI (w.alloc o) xs n hn
  rw [show (w.alloc o).heap.size = w.heap.size + 1 from World.size_alloc w o] at this
  exact this

theorem Rd.at {w : World} {D : Nat} {A : Option Addr} {n c : Nat} {xs : List Value} (h : Rd w D (.slice A n c) xs) {i : Nat} {u : Value} (hu : xs[i]? = some u) : ∃ b o, A = some ⟨b, o, none⟩ ∧ b < D ∧ w.cell? ⟨b, o + i, none⟩ = some u := by
  have hj := (List.getElem?_eq_some_iff.1 hu).1
  obtain ⟨A', c', hv, _, hx⟩ := h
  obtain ⟨b, o, hA, hb, hc⟩ := hx (by omega)
  injection hv with h1
  subst h1
  exact ⟨b, o, hA, hb, hc i u hu⟩

theorem Secs.at {w : World} {D : Nat} {A : Option Addr} {n c : Nat} {xs : List (Int × Int × Int)} (h : Secs w D (.slice A n c) xs) (i : Nat) (hi : i < xs.length) : ∃ b o, A = some ⟨b, o, none⟩ ∧ b < D ∧ w.cell? ⟨b, o + i * 3, none⟩ = some (.int .i64 xs[i].1) ∧ w.cell? ⟨b, o + i * 3 + 1, none⟩ = some (.int .i64 xs[i].2.1) ∧ w.cell? ⟨b, o + i * 3 + 2, none⟩ = some (.int .i64 xs[i].2.2) := by
  obtain ⟨A', c', hv, hx⟩ := h
  obtain ⟨b, o, hA, hb, hc⟩ := hx (by omega)
  injection hv with h1
  subst h1
  exact ⟨b, o, hA, hb, hc i hi⟩

theorem Pts.at {w : World} {D : Nat} {A : Option Addr} {n c : Nat} {xs : List (Int × Int × Int × Int)} (h : Pts w D (.slice A n c) xs) (i : Nat) (hi : i < xs.length) : ∃ b o, A = some ⟨b, o, none⟩ ∧ b < D ∧ w.cell? ⟨b, o + i * 4, none⟩ = some (.int .i64 xs[i].1) ∧ w.cell? ⟨b, o + i * 4 + 1, none⟩ = some (.int .i64 xs[i].2.1) ∧ w.cell? ⟨b, o + i * 4 + 2, none⟩ = some (.int .i64 xs[i].2.2.1) ∧ w.cell? ⟨b, o + i * 4 + 3, none⟩ = some (.int .i64 xs[i].2.2.2) := by
  obtain ⟨A', c', hv, hx⟩ := h
  obtain ⟨b, o, hA, hb, hc⟩ := hx (by omega)
  injection hv with h1
  subst h1
  exact ⟨b, o, hA, hb, hc i hi⟩

theorem part_len {α : Type} (f : α → List Bool) (l r : List Bool) (xs : List α) (i n : Nat) (hn : xs.length = n) (h : (l ++ (elist f xs ++ r)).length ≤ 100000) : (l ++ (nbit 8 (n : Int) ++ (xs.take i).flatMap f)).length ≤ 100000 := by
  have := elist_le f l xs i n hn.symm
  simp only [List.length_append] at *; omega

theorem RetSrc.row {l : List Bool} {w w' : World} {e : Ending} (h : RetSrc l w e w') {k : Nat} {t : TypeId} {cs : Array Value} (hr : Row w k t cs) : Row w' k t cs := by
  obtain ⟨v, he, hs, hb⟩ := h
  exact Below.row hb hr hr.lt

set_option maxHeartbeats 8000000 in
theorem refEncode_any (w : World) (v : Value) (L : Lay) (hv : LayV w w.heap.size v L) (hm : Modest L) : Calls Try.prog 15 #[v] w (RetBytes (closed (pack (enc L))) w) := by
  obtain ⟨vN, vS, vP, vQ, vR, ps, rfl, hd⟩ := hv
  obtain ⟨⟨A0, c0, rfl⟩, ⟨A1, c1, rfl⟩, ⟨A2, c2, rfl⟩, ⟨A3, c3, rfl⟩, ⟨A4, c4, rfl⟩⟩ := hd.slices
  have HM := Lib.hid hm
  have b0 := hm.nodes; have b1 := hm.secs; have b3 := hm.points
  clear hm
  generalize ht0 : L.speed = t0 at *
  generalize ht1 : L.mute = t1 at *
  generalize ht2 : L.wait = t2 at *
  generalize ht3 : L.cancel = t3 at *
  generalize ht4 : L.stay = t4 at *
  have HT : Hid (etimes L = nbit 16 t0 ++ (nbit 16 t1 ++ (nbit 16 t2 ++ (nbit 16 t3 ++ nbit 16 t4)))) := by show _ = _; unfold etimes; rw [ht0, ht1, ht2, ht3, ht4]
  clear ht0 ht1 ht2 ht3 ht4
  obtain ⟨k0, hk0⟩ : ∃ k, L.nodes.length = k := ⟨_, rfl⟩
  obtain ⟨k1, hk1⟩ : ∃ k, L.secs.length = k := ⟨_, rfl⟩
  obtain ⟨k2, hk2⟩ : ∃ k, L.parts.length = k := ⟨_, rfl⟩
  obtain ⟨k3, hk3⟩ : ∃ k, L.points.length = k := ⟨_, rfl⟩
  obtain ⟨k4, hk4⟩ : ∃ k, L.routes.length = k := ⟨_, rfl⟩
  have K0 := Lib.hid hk0; have K1 := Lib.hid hk1; have K3 := Lib.hid hk3
  rw [hk0] at b0; rw [hk1] at b1; rw [hk3] at b3
  rw [hk0, hk1, hk2, hk3, hk4] at hd ⊢
  clear hk0 hk1 hk2 hk3 hk4
  have HB0 := Lib.hid ((Below.refl w.heap.size w).alloc (Nat.le_refl _) (.cells #[.slice A0 k0 c0, .slice A1 k1 c1, .slice A2 k2 c2, .slice A3 k3 c3, .slice A4 k4 c4, .int .i64 t0, .int .i64 t1, .int .i64 t2, .int .i64 t3, .int .i64 t4] 33))
  have HBX := Lib.hid (Row.new w 33 #[.slice A0 k0 c0, .slice A1 k1 c1, .slice A2 k2 c2, .slice A3 k3 c3, .slice A4 k4 c4, .int .i64 t0, .int .i64 t1, .int .i64 t2, .int .i64 t3, .int .i64 t4])
  have HD := Lib.hid (hd.mono (w' := w.alloc (.cells #[.slice A0 k0 c0, .slice A1 k1 c1, .slice A2 k2 c2, .slice A3 k3 c3, .slice A4 k4 c4, .int .i64 t0, .int .i64 t1, .int .i64 t2, .int .i64 t3, .int .i64 t4] 33)) (Nat.le_refl _) fun p hp => World.cell?_alloc_lt _ _ _ hp)
  have HN0 : Hid (w.heap.size < (w.alloc (.cells #[.slice A0 k0 c0, .slice A1 k1 c1, .slice A2 k2 c2, .slice A3 k3 c3, .slice A4 k4 c4, .int .i64 t0, .int .i64 t1, .int .i64 t2, .int .i64 t3, .int .i64 t4] 33)).heap.size) := by show _ < _; rw [World.size_alloc]; omega
  have HLW : Hid (w.heap.size ≤ w.heap.size) := Nat.le_refl _
  clear hd
  go_enter Try.func15, Try.ntmps15
  go_upto_region 1 with (fail)
  generalize hn0 : w.heap.size = n0 at *
  have HNN := Lib.hid hn0; clear hn0
  generalize w.alloc (.cells #[.slice A0 k0 c0, .slice A1 k1 c1, .slice A2 k2 c2, .slice A3 k3 c3, .slice A4 k4 c4, .int .i64 t0, .int .i64 t1, .int .i64 t2, .int .i64 t3, .int .i64 t4] 33) = W0 at *
  have f0 := HBX.out.cell 0
  simp only [List.getElem?_toArray, List.getElem?_cons_zero] at f0
  have HBF1 := Lib.hid ((Below.refl W0.heap.size W0).alloc (Nat.le_refl _) (.cells #[.int .i64 66, .int .i64 76, .int .i64 (k0 : Int)] 3))
  go_wp2_with fail
  refine (rput_any _ [] 8 8 _ _ [66, 76, (k0 : Int)] (Src.nil _) (Rd.litI W0 [66, 76, (k0 : Int)] 3 rfl) rfl (by omega) (by simp) (by simp)).mono ?_
  rintro e y1 h
  have h1 := h.pre HBF1.out
  obtain ⟨z1, rfl, hs, hb⟩ := h1
  have P1 : Hid (Src y1 z1 (nbit 8 66 ++ (nbit 8 76 ++ nbit 8 (k0 : Int))) ∧ Below W0.heap.size W0 y1) := ⟨by simpa using hs, hb⟩
  clear h hs hb f0
  go_wp2_with fail
  go_loopw [3, 4] (fun t k wr => ∃ i : Nat, i ≤ k0 ∧ k = .int .i64 i ∧ Hid (Src wr t ((nbit 8 66 ++ nbit 8 76) ++ (nbit 8 (k0 : Int) ++ (L.nodes.take i).flatMap enode)) ∧ Below W0.heap.size W0 wr)) (fun _ k _ => k0 - (intOf k).toNat)
  case atStart => exact ⟨0, Nat.zero_le _, rfl, by have := P1.out.1; simpa [List.append_assoc] using this, P1.out.2⟩
  case round =>
    obtain ⟨i, hi, rfl, HI⟩ := hrel
    have hbx := Below.row HI.out.2 HBX.out HN0.out
    have f0 := hbx.cell 0
    have f1 := hbx.cell 1
    simp only [List.getElem?_toArray, List.getElem?_cons_zero, List.getElem?_cons_succ] at f0 f1
    clear hbx
    by_cases hlt : i < k0
    · have hiq : i < L.nodes.length := by have := K0.out; omega
      have HTT := Lib.hid (flatMap_take enode L.nodes i hiq)
      have HLN : Hid (((nbit 8 66 ++ nbit 8 76) ++ (nbit 8 (k0 : Int) ++ (L.nodes.take i).flatMap enode)).length ≤ 100000) := by
        have h := HM.out.bits
        unfold enc ebody at h
        have := flatMap_le enode L.nodes i
        have e : (elist enode L.nodes).length = (nbit 8 (k0 : Int)).length + (L.nodes.flatMap enode).length := by unfold elist; rw [K0.out, List.length_append]
        show _ ≤ _
        simp only [List.length_append] at *; omega
      have hip : i < ps.length := by have := HD.out.f.1; omega
      obtain ⟨b, o, rfl, hbD, hc⟩ := HD.out.n.at (nvals_get ps i hip)
      have hcell : wr.cell? ⟨b, o + i, none⟩ = some (.complex .f64 ps[i].1 ps[i].2) := (HI.out.2.cell (p := ⟨b, o + i, none⟩) (Nat.lt_trans hbD HN0.out)).trans hc
      have HE := Lib.hid (HD.out.f.2 i hip hiq)
      have HZ := Lib.hid (HM.out.node L.nodes[i] (List.getElem_mem _))
      clear hc
      generalize L.nodes[i] = z at *
      obtain ⟨z1', z2'⟩ := z
      generalize ps[i].1 = x at *
      generalize ps[i].2 = y at *
      go_wp2_with fail
      refine (at_any x y z1' z2' wr HE.out.1 HE.out.2 HZ.out.1 HZ.out.2).mono ?_
      rintro e w' ⟨rfl, rfl⟩
      have HBF20 := Lib.hid ((Below.refl wr.heap.size wr).alloc (Nat.le_refl _) (.cells #[.int .i64 z1', .int .i64 z2'] 3))
      go_wp2_with fail
      refine (rput_any _ _ 32 32 _ _ [z1', z2'] (HI.out.1.below HBF20.out) (Rd.litI wr [z1', z2'] 2 rfl) rfl (by omega) (by have := HLN.out; omega) (by simp)).mono ?_
      rintro e y20 h
      have h1 := h.pre HBF20.out
      obtain ⟨z20, rfl, hs, hb⟩ := h1
      have P20 : Hid (Src y20 z20 _ ∧ Below W0.heap.size W0 y20) := ⟨hs, HI.out.2.trans (hb.mono HI.out.2.size)⟩
      clear h hs hb
      have HR : Hid (Src y20 z20 ((nbit 8 66 ++ nbit 8 76) ++ (nbit 8 (k0 : Int) ++ (L.nodes.take (i + 1)).flatMap enode)) ∧ Below W0.heap.size W0 y20) := by
        refine ⟨?_, P20.out.2⟩
        have := P20.out.1
        rw [HTT.out]
        simpa [enode, List.append_assoc] using this
      go_wp2_with fail
      go_roundw
      case rel => exact ⟨i + 1, by omega, by go_num, HR⟩
      case measure => simp [intOf]; omega
    · have HX0 : Hid (Src wr u3 ((nbit 8 66 ++ nbit 8 76) ++ elist enode L.nodes) ∧ Below W0.heap.size W0 wr) := by
        refine ⟨?_, HI.out.2⟩
        have h := HI.out.1
        rw [List.take_of_length_le (by have := K0.out; omega), ← K0.out] at h
        exact h
      clear HI
      obtain ⟨wA, hwL⟩ : ∃ x, x = wr := ⟨_, rfl⟩
      subst hwL
      have HBF2 := Lib.hid ((Below.refl wA.heap.size wA).alloc (Nat.le_refl _) (.cells #[.int .i64 (k1 : Int)] 3))
      go_wp2_with fail
      refine (rput_any _ _ 8 8 _ _ [(k1 : Int)] (HX0.out.1.below HBF2.out) (Rd.litI wA [(k1 : Int)] 1 rfl) rfl (by omega) (by have h := HM.out.bits; unfold enc ebody at h; simp only [List.length_append, nbit_length, elist] at *; omega) (by simp)).mono ?_
      rintro e y2 h
      have h1 := h.pre HBF2.out
      obtain ⟨z2, rfl, hs, hb⟩ := h1
      have P2 : Hid (Src y2 z2 _ ∧ Below W0.heap.size W0 y2) := ⟨hs, HX0.out.2.trans (hb.mono HX0.out.2.size)⟩
      clear h hs hb
      clear f0 f1
      go_wp2_with fail
      go_loopw [3, 7] (fun t k wr => ∃ i : Nat, i ≤ k1 ∧ k = .int .i64 i ∧ Hid (Src wr t ((nbit 8 66 ++ nbit 8 76 ++ elist enode L.nodes) ++ (nbit 8 (k1 : Int) ++ (L.secs.take i).flatMap esec)) ∧ Below W0.heap.size W0 wr)) (fun _ k _ => k1 - (intOf k).toNat)
      case atStart => exact ⟨0, Nat.zero_le _, rfl, by have := P2.out.1; simpa [List.append_assoc] using this, P2.out.2⟩
      case round =>
        obtain ⟨i, hi, rfl, HI⟩ := hrel
        have hbx := Below.row HI.out.2 HBX.out HN0.out
        have f1 := hbx.cell 1
        have f2 := hbx.cell 2
        simp only [List.getElem?_toArray, List.getElem?_cons_zero, List.getElem?_cons_succ] at f1 f2
        clear hbx
        by_cases hlt : i < k1
        · have hiq : i < L.secs.length := by have := K1.out; omega
          have HTT := Lib.hid (flatMap_take esec L.secs i hiq)
          have HLN : Hid (((nbit 8 66 ++ nbit 8 76 ++ elist enode L.nodes) ++ (nbit 8 (k1 : Int) ++ (L.secs.take i).flatMap esec)).length ≤ 100000) := by
            have h := HM.out.bits
            unfold enc ebody at h
            have := flatMap_le esec L.secs i
            have e : (elist esec L.secs).length = (nbit 8 (k1 : Int)).length + (L.secs.flatMap esec).length := by unfold elist; rw [K1.out, List.length_append]
            show _ ≤ _
            simp only [List.length_append] at *; omega
          obtain ⟨b, o, rfl, hbD, q1, q2, q3⟩ := HD.out.s.at i hiq
          have hbl := Nat.lt_trans hbD HN0.out
          have e1 := (HI.out.2.cell (p := ⟨b, o + i * 3, none⟩) hbl).trans q1
          have e2 := (HI.out.2.cell (p := ⟨b, o + i * 3 + 1, none⟩) hbl).trans q2
          have e3 := (HI.out.2.cell (p := ⟨b, o + i * 3 + 2, none⟩) hbl).trans q3
          clear q1 q2 q3 hbl
          generalize L.secs[i] = z at *
          obtain ⟨s1, s2, s3⟩ := z
          simp only at e1 e2 e3
          have hb2 := below2 wr (.cells #[.int .i64 s1, .int .i64 s2, .int .i64 s3] 50) (.cells #[.int .i64 s1] 3)
          have HB2 := Lib.hid hb2
          have HSR := Lib.hid ((Row.new wr 50 #[.int .i64 s1, .int .i64 s2, .int .i64 s3]).alloc (.cells #[.int .i64 s1] 3))
          clear hb2
          go_wp2_with fail
          refine (rput_any _ _ 16 16 _ _ [s1] (HI.out.1.below HB2.out) (Rd.litI2 wr (.cells #[.int .i64 s1, .int .i64 s2, .int .i64 s3] 50) [s1] 1 rfl) rfl (by omega) (by have := HLN.out; omega) (by simp)).mono ?_
          rintro e y30 h
          have hrw := RetSrc.row h HSR.out
          have h1 := h.pre HB2.out
          obtain ⟨z30, rfl, hs, hb⟩ := h1
          have P30 : Hid (Src y30 z30 _ ∧ Below W0.heap.size W0 y30) := ⟨hs, HI.out.2.trans (hb.mono HI.out.2.size)⟩
          have g1 := hrw.cell 1; have g2 := hrw.cell 2
          simp only [List.getElem?_toArray, List.getElem?_cons_zero, List.getElem?_cons_succ] at g1 g2
          clear h hs hb hrw
          have HBF31 := Lib.hid ((Below.refl y30.heap.size y30).alloc (Nat.le_refl _) (.cells #[.int .i64 s2, .int .i64 s3] 3))
          go_wp2_with fail
          refine (rput_any _ _ 8 8 _ _ [s2, s3] (P30.out.1.below HBF31.out) (Rd.litI y30 [s2, s3] 2 rfl) rfl (by omega) (by have := HLN.out; rw [List.length_append, flat_length]; simp only [List.length_cons, List.length_nil]; omega) (by simp)).mono ?_
          rintro e y31 h
          have h1 := h.pre HBF31.out
          obtain ⟨z31, rfl, hs, hb⟩ := h1
          have P31 : Hid (Src y31 z31 _ ∧ Below W0.heap.size W0 y31) := ⟨hs, P30.out.2.trans (hb.mono P30.out.2.size)⟩
          clear h hs hb
          have HR : Hid (Src y31 z31 ((nbit 8 66 ++ nbit 8 76 ++ elist enode L.nodes) ++ (nbit 8 (k1 : Int) ++ (L.secs.take (i + 1)).flatMap esec)) ∧ Below W0.heap.size W0 y31) := by
            refine ⟨?_, P31.out.2⟩
            have := P31.out.1
            rw [HTT.out]
            simpa [esec, List.append_assoc] using this
          go_wp2_with fail
          go_roundw
          case rel => exact ⟨i + 1, by omega, by go_num, HR⟩
          case measure => simp [intOf]; omega
        · have HX1 : Hid (Src wr u3 ((nbit 8 66 ++ nbit 8 76 ++ elist enode L.nodes) ++ elist esec L.secs) ∧ Below W0.heap.size W0 wr) := by
            refine ⟨?_, HI.out.2⟩
            have h := HI.out.1
            rw [List.take_of_length_le (by have := K1.out; omega), ← K1.out] at h
            exact h
          clear HI
          obtain ⟨wB, hwL⟩ : ∃ x, x = wr := ⟨_, rfl⟩
          subst hwL
          go_wp2_with fail
          refine (rlists_any wB n0 _ _ _ L.parts HX1.out.1 (HD.out.p.mono (Nat.le_refl _) fun a ha => HX1.out.2.cell (Nat.lt_trans ha HN0.out)) (Nat.le_trans (Nat.le_of_lt HN0.out) HX1.out.2.size) (by have h := HM.out.bits; unfold enc ebody at h; simp only [List.length_append, nbit_length, elist] at *; omega) HM.out.parts HM.out.part).mono ?_
          rintro e y4 ⟨z4, rfl, hs, hb⟩
          have P4 : Hid (Src y4 z4 _ ∧ Below W0.heap.size W0 y4) := ⟨hs, HX1.out.2.trans (hb.mono HX1.out.2.size)⟩
          clear hs hb f1 f2
          have hbx := Below.row P4.out.2 HBX.out HN0.out
          have f3 := hbx.cell 3
          simp only [List.getElem?_toArray, List.getElem?_cons_zero, List.getElem?_cons_succ] at f3
          clear hbx
          have HBF5 := Lib.hid ((Below.refl y4.heap.size y4).alloc (Nat.le_refl _) (.cells #[.int .i64 (k3 : Int)] 3))
          go_wp2_with fail
          refine (rput_any _ _ 8 8 _ _ [(k3 : Int)] (P4.out.1.below HBF5.out) (Rd.litI y4 [(k3 : Int)] 1 rfl) rfl (by omega) (by have h := HM.out.bits; unfold enc ebody at h; simp only [List.length_append, nbit_length, elist] at *; omega) (by simp)).mono ?_
          rintro e y5 h
          have h1 := h.pre HBF5.out
          obtain ⟨z5, rfl, hs, hb⟩ := h1
          have P5 : Hid (Src y5 z5 _ ∧ Below W0.heap.size W0 y5) := ⟨hs, P4.out.2.trans (hb.mono P4.out.2.size)⟩
          clear h hs hb
          clear f3
          go_wp2_with fail
          go_loopw [3, 9] (fun t k wr => ∃ i : Nat, i ≤ k3 ∧ k = .int .i64 i ∧ Hid (Src wr t ((nbit 8 66 ++ nbit 8 76 ++ elist enode L.nodes ++ elist esec L.secs ++ erows L.parts) ++ (nbit 8 (k3 : Int) ++ (L.points.take i).flatMap epoint)) ∧ Below W0.heap.size W0 wr)) (fun _ k _ => k3 - (intOf k).toNat)
          case atStart => exact ⟨0, Nat.zero_le _, rfl, by have := P5.out.1; simpa [List.append_assoc] using this, P5.out.2⟩
          case round =>
            obtain ⟨i, hi, rfl, HI⟩ := hrel
            have hbx := Below.row HI.out.2 HBX.out HN0.out
            have f3 := hbx.cell 3
            have f4 := hbx.cell 4
            simp only [List.getElem?_toArray, List.getElem?_cons_zero, List.getElem?_cons_succ] at f3 f4
            clear hbx
            by_cases hlt : i < k3
            · have hiq : i < L.points.length := by have := K3.out; omega
              have HTT := Lib.hid (flatMap_take epoint L.points i hiq)
              have HLN : Hid (((nbit 8 66 ++ nbit 8 76 ++ elist enode L.nodes ++ elist esec L.secs ++ erows L.parts) ++ (nbit 8 (k3 : Int) ++ (L.points.take i).flatMap epoint)).length ≤ 100000) := by
                have h := HM.out.bits
                unfold enc ebody at h
                have := flatMap_le epoint L.points i
                have e : (elist epoint L.points).length = (nbit 8 (k3 : Int)).length + (L.points.flatMap epoint).length := by unfold elist; rw [K3.out, List.length_append]
                show _ ≤ _
                simp only [List.length_append] at *; omega
              obtain ⟨b, o, rfl, hbD, q1, q2, q3, q4⟩ := HD.out.q.at i hiq
              have hbl := Nat.lt_trans hbD HN0.out
              have e1 := (HI.out.2.cell (p := ⟨b, o + i * 4, none⟩) hbl).trans q1
              have e2 := (HI.out.2.cell (p := ⟨b, o + i * 4 + 1, none⟩) hbl).trans q2
              have e3 := (HI.out.2.cell (p := ⟨b, o + i * 4 + 2, none⟩) hbl).trans q3
              have e4 := (HI.out.2.cell (p := ⟨b, o + i * 4 + 3, none⟩) hbl).trans q4
              clear q1 q2 q3 q4 hbl
              generalize L.points[i] = z at *
              obtain ⟨s1, s2, s3, s4⟩ := z
              simp only at e1 e2 e3 e4
              have HB2 := Lib.hid (below2 wr (.cells #[.int .i64 s1, .int .i64 s2, .int .i64 s3, .int .i64 s4] 53) (.cells #[.int .i64 s1, .int .i64 s2, .int .i64 s3, .int .i64 s4] 3))
              go_wp2_with fail
              refine (rput_any _ _ 8 8 _ _ [s1, s2, s3, s4] (HI.out.1.below HB2.out) (Rd.litI2 wr (.cells #[.int .i64 s1, .int .i64 s2, .int .i64 s3, .int .i64 s4] 53) [s1, s2, s3, s4] 4 rfl) rfl (by omega) (by have := HLN.out; omega) (by simp)).mono ?_
              rintro e y40 h
              have h1 := h.pre HB2.out
              obtain ⟨z40, rfl, hs, hb⟩ := h1
              have P40 : Hid (Src y40 z40 _ ∧ Below W0.heap.size W0 y40) := ⟨hs, HI.out.2.trans (hb.mono HI.out.2.size)⟩
              clear h hs hb
              have HR : Hid (Src y40 z40 ((nbit 8 66 ++ nbit 8 76 ++ elist enode L.nodes ++ elist esec L.secs ++ erows L.parts) ++ (nbit 8 (k3 : Int) ++ (L.points.take (i + 1)).flatMap epoint)) ∧ Below W0.heap.size W0 y40) := by
                refine ⟨?_, P40.out.2⟩
                have := P40.out.1
                rw [HTT.out]
                simpa [epoint, List.append_assoc] using this
              go_wp2_with fail
              go_roundw
              case rel => exact ⟨i + 1, by omega, by go_num, HR⟩
              case measure => simp [intOf]; omega
            · have HX3 : Hid (Src wr u3 ((nbit 8 66 ++ nbit 8 76 ++ elist enode L.nodes ++ elist esec L.secs ++ erows L.parts) ++ elist epoint L.points) ∧ Below W0.heap.size W0 wr) := by
                refine ⟨?_, HI.out.2⟩
                have h := HI.out.1
                rw [List.take_of_length_le (by have := K3.out; omega), ← K3.out] at h
                exact h
              clear HI
              obtain ⟨wC, hwL⟩ : ∃ x, x = wr := ⟨_, rfl⟩
              subst hwL
              go_wp2_with fail
              refine (rlists_any wC n0 _ _ _ L.routes HX3.out.1 (HD.out.r.mono (Nat.le_refl _) fun a ha => HX3.out.2.cell (Nat.lt_trans ha HN0.out)) (Nat.le_trans (Nat.le_of_lt HN0.out) HX3.out.2.size) (by have h := HM.out.bits; unfold enc ebody at h; simp only [List.length_append, nbit_length, elist] at *; omega) HM.out.routes HM.out.route).mono ?_
              rintro e y6 ⟨z6, rfl, hs, hb⟩
              have P6 : Hid (Src y6 z6 _ ∧ Below W0.heap.size W0 y6) := ⟨hs, HX3.out.2.trans (hb.mono HX3.out.2.size)⟩
              clear hs hb f3 f4
              have hbx := Below.row P6.out.2 HBX.out HN0.out
              have f5 := hbx.cell 5; have f6 := hbx.cell 6; have f7 := hbx.cell 7; have f8 := hbx.cell 8; have f9 := hbx.cell 9
              simp only [List.getElem?_toArray, List.getElem?_cons_zero, List.getElem?_cons_succ] at f5 f6 f7 f8 f9
              clear hbx
              have HBF7 := Lib.hid ((Below.refl y6.heap.size y6).alloc (Nat.le_refl _) (.cells #[.int .i64 t0, .int .i64 t1, .int .i64 t2, .int .i64 t3, .int .i64 t4] 3))
              go_wp2_with fail
              refine (rput_any _ _ 16 16 _ _ [t0, t1, t2, t3, t4] (P6.out.1.below HBF7.out) (Rd.litI y6 [t0, t1, t2, t3, t4] 5 rfl) rfl (by omega) (by have h := HM.out.bits; unfold enc ebody at h; simp only [List.length_append, nbit_length] at *; omega) (by simp)).mono ?_
              rintro e y7 h
              have h1 := h.pre HBF7.out
              obtain ⟨z7, rfl, hs, hb⟩ := h1
              have P7 : Hid (Src y7 z7 _ ∧ Below W0.heap.size W0 y7) := ⟨hs, P6.out.2.trans (hb.mono P6.out.2.size)⟩
              clear h hs hb
              have HQ : Hid (Src y7 z7 (enc L)) := by
                have h := P7.out.1
                have e : nbit 8 66 ++ nbit 8 76 ++ elist enode L.nodes ++ elist esec L.secs ++ erows L.parts ++ elist epoint L.points ++ erows L.routes ++ List.flatMap (nbit 16) [t0, t1, t2, t3, t4] = enc L := by
                  unfold enc ebody; rw [HT.out]; simp [List.append_assoc]
                rw [e] at h; exact h
              clear f5 f6 f7 f8 f9
              have HB8 : Hid (Below w.heap.size w y7) := by
                have h := HB0.out
                have hn := HNN.out
                rw [← hn] at h
                exact h.trans (P7.out.2.mono (by have := HN0.out; omega))
              go_wp2_with fail
              refine (refBytes_any y7 z7 (enc L) HQ.out.rd (by have := HM.out.bits; omega)).mono ?_
              rintro e u8 ⟨v8, rfl, ho8, hb8⟩
              have HO8 := Lib.hid (Rd.of_own ho8); have HB9 := Lib.hid (HB8.out.trans (hb8.mono HB8.out.size))
              clear ho8 hb8
              go_wp2_with fail
              refine (refClose_any u8 u8.heap.size v8 (pack (enc L)) HO8.out (Nat.le_refl _) (pack_small _) (by have := HM.out.bits; rw [pack_length]; unfold nb; omega)).mono ?_
              rintro e u9 ⟨v9, rfl, ho9, hb9⟩
              have HO9 := Lib.hid (own_base ho9 HB9.out.size); have HB10 := Lib.hid (HB9.out.trans (hb9.mono HB9.out.size))
              clear ho9 hb9
              go_wp2_with fail
              go_ret
              exact ⟨_, rfl, HO9.out, HB10.out⟩

end Go.Proofs.Ythpfhcelmddjlaa
