/- Contracts: eachOnce, Near. Contracts: Near. -/
import Derived.Test.YthnjilbfkfekhaaGB
import Derived.Sort.OwnSortedInts
import Derived.Lib.OwnBridge
import Derived.Sort.Grow
namespace Go.Proofs.Ythnjilbfkfekhaa
open Go.RowKit Fl Go.Sort
set_option maxRecDepth 100000

set_option maxHeartbeats 1000000 in
theorem eachOnce_any (w : World) (B : Nat) (v : Value) (xs : List Int) (ho : w.ownsRow B 3 1 v xs.length (ivals xs)) (hB : B ≤ w.heap.size) (hl : xs.length ≤ 100000) : Calls Try.prog 47 #[v] w (RetOwn B (riseL xs) w) := by
  rcases ho.2 with ⟨rfl, h0⟩ | ⟨g, cap, cur, rfl, hbase, hb, h1, h2, h3, h4⟩
  · have hx : xs = [] := List.length_eq_zero_iff.1 h0
    subst hx
    rw [riseL_nil]
    clear ho h0 hl
    go_enter Try.func47, Try.ntmps47
    go_wp2_with fail
    refine (Try.slices_Sort_int_none none 0 w).mono ?_; rintro e w' ⟨rfl, rfl⟩
    go_wp2_with fail
    refine (Try.slices_Compact_int_empty none 0 _).mono ?_; rintro e w' ⟨rfl, rfl⟩
    go_wp2_with fail
    go_ret
    exact ⟨_, rfl, World.ownsRow_nil _ _ _ _, Below.refl _ _⟩
  · have HH := Lib.hid (holds_of_blockI (ss := xs) hb (by rw [Nat.mul_one] at h4; exact h4))
    have hgl := heap_lt hb
    obtain ⟨ts, hts⟩ : ∃ ts, ts = xs.mergeSort fun x y => decide (x ≤ y) := ⟨_, rfl⟩
    have hl2 : ts.length = xs.length := by rw [hts]; exact List.length_mergeSort xs
    have HR : Hid (riseL xs = Lib.compact ts) := by show _ = _; rw [hts]; rfl
    have hle := Lib.compact_length_le ts
    obtain ⟨r, hr⟩ : ∃ r, riseL xs = r := ⟨_, rfl⟩
    rw [hr] at HR ⊢
    have HT := Lib.hid hts
    have HL2 := Lib.hid hl2
    have HOW : Hid (∀ n os, (grow (putRow (Value.int .i64) (Sort.ahead w n) g 0 ts.toArray) os).ownsRow B 3 1 (.slice (some ⟨g, 0, none⟩) xs.length cap) xs.length (ts.map (Value.int .i64))) := fun n os => ownsRow_sortedI hl2 hbase hb h1 h2 h3
    clear ho hb h3 h4 hr hts hl2
    obtain ⟨m, hm⟩ : ∃ m, xs.length = m := ⟨_, rfl⟩
    have HM := Lib.hid hm
    have hS := Try.slices_Sort_int g 0 cap xs w HH.out hgl (by omega)
    rw [hm] at hS HOW hl h1 HL2 ⊢
    have HS := Lib.hid hS
    clear hS hm
    go_enter Try.func47, Try.ntmps47
    go_wp2_with fail
    refine HS.out.mono ?_; rintro e w1 ⟨rfl, nn, os, hw1⟩
    rw [← HT.out] at hw1
    have HO1 : Hid (w1.ownsRow B 3 1 (.slice (some ⟨g, 0, none⟩) m cap) m (ts.map (Value.int .i64))) := by rw [hw1]; exact HOW.out nn os
    have HB1 : Hid (Below B w w1) := by
      rw [hw1]
      exact (Below.refl B w).grown (grownBy_sortedI _) hB (fun j hj => by cases hj; exact hbase)
    clear hw1
    have hH1 : Holds (Value.int .i64) w1 g 0 ts.toArray := by
      rcases HO1.out.2 with ⟨e0, _⟩ | ⟨g', cap', cur', e0, _, hb', _, _, _, h4'⟩
      · cases e0
      · injection e0 with e1 _ _
        injection e1 with e1
        injection e1 with e1
        subst e1
        exact holds_of_blockI hb' (by have := HL2.out; rw [Nat.mul_one] at h4'; rw [this]; exact h4')
    have hC := Try.slices_Compact_int g 0 cap ts w1 hH1 (by have := HL2.out; omega) (by have := HL2.out; omega)
    rw [HL2.out] at hC
    have HC := Lib.hid hC
    clear hC hH1
    go_wp2_with fail
    refine HC.out.mono ?_; rintro e w2 ⟨rfl, q, hw2⟩
    have HO2 : Hid (w2.ownsRow B 3 1 (.slice (some ⟨g, 0, none⟩) (Lib.compact ts).length cap) (Lib.compact ts).length (ivals (Lib.compact ts))) := by
      rw [hw2]
      have hc := Lib.ownsRow_putRow (q := q) (k := (Lib.compact ts).length) (ys := Lib.compact ts ++ List.replicate (m - (Lib.compact ts).length) 0) HO1.out (by have := HL2.out; simp; omega) (by have := HL2.out; omega)
      rw [List.take_left] at hc
      exact hc
    have HB2 : Hid (Below B w w2) := by rw [hw2]; exact Lib.below_putRow HB1.out hbase
    clear hw2
    go_wp2_with fail
    go_ret
    rw [HR.out]
    exact ⟨_, rfl, HO2.out, HB2.out⟩

end Go.Proofs.Ythnjilbfkfekhaa

namespace Go.Proofs.Ythnjilbfkfekhaa
open Go.RowKit Fl
set_option maxRecDepth 100000

set_option maxHeartbeats 4000000 in
theorem near_any (w : World) (D : Nat) (v : Value) (L : Lay) (s : Int) (h : IsGr w D v L) (hD : D ≤ w.heap.size) (hL : Fits L) :
    Calls Try.prog 45 #[v, .int .i64 s] w (RetOwn w.heap.size (nearL L s) w) := by
  have HI := Lib.hid h
  obtain ⟨g, vS, vQ, vP, rfl, -⟩ := h
  have HL := Lib.hid hL
  clear hL
  have HE : Hid (nearL L s = riseL (nearTo L s 2)) := rfl
  generalize nearL L s = r at *
  obtain ⟨i3, hi3, hz30, hz31, hz32⟩ := info_parts Try.info3n
  obtain ⟨B0, hB0⟩ : ∃ n, n = w.heap.size := ⟨_, rfl⟩
  rw [← hB0]
  have HB0 := Lib.hid hB0
  have hB1 : B0 ≤ w.heap.size := by omega
  have hDB : D ≤ B0 := by omega
  clear hB0 hD
  go_enter Try.func45, Try.ntmps45
  go_wp2_with fail
  go_loopw [5, 9] (fun t k wr => ∃ i : Nat, i ≤ 2 ∧ k = .int .i64 i ∧ Hid (wr.ownsRow B0 3 1 t (nearTo L s i).length (ivals (nearTo L s i)) ∧ Below B0 w wr)) (fun _ k _ => 2 - (intOf k).toNat)
  case atStart => exact ⟨0, Nat.zero_le _, rfl, World.ownsRow_nil _ _ _ _, Below.refl _ _⟩
  case round =>
    obtain ⟨i, hi, rfl, HJ⟩ := hrel
    obtain ⟨A5, c5, hv5⟩ := own_slice HJ.out.1
    subst hv5
    have hnl := nearTo_le L s i
    by_cases hlt : i < 2
    · have HS : Hid (nearTo L s (i + 1) = nearTo L s i ++ (aroundL L (s, (i : Int))).map (·.1)) := rfl
      have hal := aroundL_le L (s, (i : Int))
      go_wp2_with fail
      refine (around_any wr D _ L s (i : Int) (HI.out.keep HJ.out.2 hDB) (by have := HJ.out.2.size; omega) HL.out).mono ?_; rintro e w1 ⟨v1, rfl, hp1, hb1⟩
      have HO1 := Lib.hid (own_below HJ.out.1 hb1)
      have HB1 : Hid (Below B0 w w1) := HJ.out.2.trans (hb1.mono (by have := HJ.out.2.size; omega))
      have HP1 := Lib.hid hp1
      obtain ⟨A1, c1, hv1, hpp⟩ := id hp1
      subst hv1
      clear hb1 hp1 hpp HJ
      generalize aroundL L (s, (i : Int)) = ys at *
      generalize nearTo L s i = ns at *
      obtain ⟨wM, hwM⟩ : ∃ x, x = w1 := ⟨_, rfl⟩
      subst hwM
      go_wp2_with fail
      go_loopw [5, 18] (fun t k wr => ∃ j : Nat, j ≤ ys.length ∧ k = .int .i64 j ∧ Hid (wr.ownsRow B0 3 1 t (ns ++ (ys.take j).map (·.1)).length (ivals (ns ++ (ys.take j).map (·.1))) ∧ Below B0 w wr ∧ Prs wr wM.heap.size (.slice A1 ys.length c1) ys ∧ wM.heap.size ≤ wr.heap.size)) (fun _ k _ => ys.length - (intOf k).toNat)
      case atStart => exact ⟨0, Nat.zero_le _, rfl, by simpa using HO1.out, HB1.out, HP1.out, Nat.le_refl _⟩
      case round =>
        obtain ⟨j, hj, rfl, HK⟩ := hrel
        obtain ⟨A6, c6, hv6⟩ := own_slice HK.out.1
        subst hv6
        by_cases hlt2 : j < ys.length
        · have HSN : Hid (ivals (ns ++ (ys.take j).map (·.1)) ++ [.int .i64 ys[j].1] = ivals (ns ++ (ys.take (j + 1)).map (·.1)) ∧ (ns ++ (ys.take (j + 1)).map (·.1)).length = (ns ++ (ys.take j).map (·.1)).length + 1) := by
            refine ⟨?_, ?_⟩
            · rw [ivals_snoc', List.append_assoc, firsts_take ys j hlt2]
            · simp; omega
          have hlb : (ns ++ (ys.take j).map (·.1)).length ≤ 10 := by simp; omega
          obtain ⟨b, o, hA, hbD, q0, q1⟩ := HK.out.2.2.1.at j hlt2
          subst hA
          generalize ys[j] = z at *
          obtain ⟨x, y⟩ := z
          simp only at q0 q1 HSN
          generalize ns ++ (ys.take j).map (·.1) = zs at *
          have HOA : Hid (((wr.alloc (.cells #[.int .i64 x, .int .i64 y] 92)).alloc (.cells #[.int .i64 x] 3)).ownsRow B0 3 1 (.slice A6 zs.length c6) zs.length (ivals zs)) := (HK.out.1.alloc _).alloc _
          have HBA : Hid (Below B0 w ((wr.alloc (.cells #[.int .i64 x, .int .i64 y] 92)).alloc (.cells #[.int .i64 x] 3))) := (HK.out.2.1.alloc (by have := HK.out.2.1.size; omega) _).alloc (by have := HK.out.2.1.size; simp; omega) _
          have HPA : Hid (Prs ((wr.alloc (.cells #[.int .i64 x, .int .i64 y] 92)).alloc (.cells #[.int .i64 x] 3)) wM.heap.size (.slice (some ⟨b, o, none⟩) ys.length c1) ys) := HK.out.2.2.1.mono (Nat.le_refl _) (fun k hk => (below2 wr (.cells #[.int .i64 x, .int .i64 y] 92) (.cells #[.int .i64 x] 3)).block k (by have := HK.out.2.2.2; omega))
          go_wp2_with (at_builtin; refine wpList_append_own _ rfl (.tmp 22) (.tmp 25) 45 rfl B0 3 i3 (.int .i64 0) 1 8 Try.underlying45 hi3 hz30 hz31 hz32 rfl (by decide) _ _ _ rfl HOA.out ⟨wr.heap.size + 1, 0, none⟩ 1 1 [.int .i64 x] rfl rfl (by simpa using one_new (wr.alloc (.cells #[.int .i64 x, .int .i64 y] 92)) 3 _) (one_cell rfl) (by unfold maxLen; omega) (by omega) (by have := HK.out.2.1.size; simp; omega) ?_)
          intro v7 w7 hown7 hgrow7 _
          rw [HSN.out.1] at hown7
          have HNX : Hid (w7.ownsRow B0 3 1 v7 (ns ++ (ys.take (j + 1)).map (·.1)).length (ivals (ns ++ (ys.take (j + 1)).map (·.1))) ∧ Below B0 w w7 ∧ Prs w7 wM.heap.size (.slice (some ⟨b, o, none⟩) ys.length c1) ys ∧ wM.heap.size ≤ w7.heap.size) := by
            refine ⟨by rw [HSN.out.2]; exact hown7, HBA.out.grown hgrow7 (by have := HBA.out.size; omega) (fun k hk => (HOA.out.lt k hk).1), HPA.out.grown HOA.out (by decide) hgrow7, ?_⟩
            have h1 := hgrow7.size; have h2 := HK.out.2.2.2
            simp at h1; omega
          clear hown7 hgrow7 q0 q1
          go_wp2_with fail
          go_roundw
          case rel => exact ⟨j + 1, by omega, by go_num, HNX⟩
          case measure => simp [intOf]; omega
        · have HJE : Hid ((ys.take j).map (·.1) = ys.map (·.1)) := by show _ = _; rw [List.take_of_length_le (by omega)]
          have HNX : Hid (wr.ownsRow B0 3 1 (.slice A6 (ns ++ (ys.take j).map (·.1)).length c6) (nearTo L s (i + 1)).length (ivals (nearTo L s (i + 1))) ∧ Below B0 w wr) := by
            refine ⟨?_, HK.out.2.1⟩
            have h1 := HK.out.1
            rw [HJE.out] at h1 ⊢
            rw [HS.out]; exact h1
          clear HK
          go_wp2_with fail
          go_roundw
          case rel => exact ⟨i + 1, by omega, by go_num, HNX⟩
          case measure => simp [intOf]; omega
    · have HIE : Hid (i = 2) := by show _ = _; omega
      have hlen := nearTo_le L s i
      have HJ2 := Lib.hid HJ.out
      clear HJ
      go_wp2_with fail
      refine (eachOnce_any wr B0 _ (nearTo L s i) HJ2.out.1 (by have := HJ2.out.2.size; omega) (by omega)).mono ?_; rintro e w8 ⟨v8, rfl, ho8, hb8⟩
      have HO8 := Lib.hid ho8
      have HB8 := Lib.hid (HJ2.out.2.trans hb8)
      clear ho8 hb8
      go_wp2_with fail
      go_ret
      rw [HE.out, ← HIE.out]
      exact ⟨_, rfl, HO8.out, HB8.out⟩

end Go.Proofs.Ythnjilbfkfekhaa
