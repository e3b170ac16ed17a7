/- The program's rules on ends; the sections at a node. -/
import Derived.Test.YtagkgejdammflaaGreatVA
import Derived.Test.YtagkgejdammflaaGreatGB
namespace Go.Proofs.YtagkgejdammflaaGreat
open Go.RowKit Fl
set_option maxRecDepth 100000

theorem IsTrk.keep {w w' : World} {B D : Nat} {v : Value} {L : Lay} (h : IsTrk w D v L) (hb : Below B w w') (hD : D ≤ B) : IsTrk w' D v L := by
  obtain ⟨t, vN, vS, vP, vQ, vR, vg, ps, rfl, hk⟩ := h
  have hc : ∀ p : Addr, p.block < D → w'.cell? p = w.cell? p := fun p hp => hb.cell (p := p) (Nat.lt_of_lt_of_le hp hD)
  exact ⟨t, vN, vS, vP, vQ, vR, vg, ps, rfl, ⟨Below.row hb hk.row (Nat.lt_of_lt_of_le hk.lt hD), hk.lt, ⟨hk.data.n.mono (Nat.le_refl _) hc, hk.data.f, hk.data.s.mono (Nat.le_refl _) hc, hk.data.p.mono (Nat.le_refl _) hc, hk.data.q.mono (Nat.le_refl _) hc, hk.data.r.mono (Nat.le_refl _) hc⟩, hk.gr.keep hb hD⟩⟩

theorem endsL_le (L : Lay) (hL : Fits L) (n : Int) : (endsL L.secs n).length ≤ 200 := by
  have h1 := endsTo_le L.secs n L.secs.length
  have h2 := hL.s
  show (endsTo L.secs n L.secs.length).length ≤ 200
  omega

set_option maxHeartbeats 2000000 in
theorem hasEnds_any (w : World) (D : Nat) (v : Value) (L : Lay) (i : Int) (h : IsTrk w D v L) (hD : D ≤ w.heap.size) (hL : Fits L) : Calls Tryz.prog 41 #[v, .int .i64 i] w (RetL (inB ((endsL L.secs i).length : Int) 1 3) w) := by
  obtain ⟨t, A0, c0, A1, c1, A2, c2, A3, c3, A4, c4, vg, ps, rfl, hk⟩ := h.slices
  have f10 := hk.row.cell 10
  simp only [List.getElem?_toArray, List.getElem?_cons_zero, List.getElem?_cons_succ] at f10
  have HE := Lib.hid (ends_any w D vg L i hk.gr hD hL)
  obtain ⟨g, gS, gQ, gP, rfl, -⟩ := hk.gr
  have hel := endsL_le L hL i
  generalize endsL L.secs i = es at *
  clear hk h hD hL
  go_enter Tryz.func41, Tryz.ntmps41
  go_wp2_with fail
  refine HE.out.mono ?_; rintro e w1 ⟨v1, rfl, ho, hb⟩
  obtain ⟨A, c, hv1⟩ := own_slice ho
  subst hv1
  have HB := Lib.hid hb
  clear hb ho f10 HE
  go_wp2_with fail
  refine (within_any w1 (es.length : Int) 1 3).mono ?_; rintro e w' ⟨rfl, rfl⟩
  go_wp2_with fail
  go_ret
  exact ⟨rfl, HB.out⟩

/-- The sections whose ends are at a node. -/
def secsAt (L : Lay) (n : Int) : List Int := (endsL L.secs n).map (·.1)
theorem fst_take (xs : List (Int × Int)) (j : Nat) (h : j < xs.length) : (xs.take j).map (·.1) ++ [xs[j].1] = (xs.take (j + 1)).map (·.1) := by
  rw [List.take_succ_eq_append_getElem h, List.map_append]; rfl
theorem Tryz.info3v : (Tryz.prog.info? 3).map (fun i => (i.zero, i.size, i.bytes)) = some (some (.int .i64 0), 1, 8) := by kernel_rfl

set_option maxHeartbeats 4000000 in
theorem sectionsAt_any (w : World) (D : Nat) (v : Value) (L : Lay) (i : Int) (h : IsTrk w D v L) (hD : D ≤ w.heap.size) (hL : Fits L) : Calls Tryz.prog 64 #[v, .int .i64 i] w (RetOwn w.heap.size (secsAt L i) w) := by
  obtain ⟨t, A0, c0, A1, c1, A2, c2, A3, c3, A4, c4, vg, ps, rfl, hk⟩ := h.slices
  obtain ⟨i3, hi3, hz30, hz31, hz32⟩ := info_parts Tryz.info3v
  have f10 := hk.row.cell 10
  simp only [List.getElem?_toArray, List.getElem?_cons_zero, List.getElem?_cons_succ] at f10
  have HE := Lib.hid (ends_any w D vg L i hk.gr hD hL)
  obtain ⟨g, gS, gQ, gP, rfl, -⟩ := hk.gr
  have hel := endsL_le L hL i
  have hsa : Hid (secsAt L i = (endsL L.secs i).map (·.1)) := rfl
  rw [hsa.out]
  generalize endsL L.secs i = es at *
  clear hk h hD hL hsa
  obtain ⟨B, hB⟩ : ∃ B, B = w.heap.size := ⟨_, rfl⟩
  rw [← hB]
  have HBE := Lib.hid hB
  clear hB
  obtain ⟨n, hn⟩ : ∃ n, n = es.length := ⟨_, rfl⟩
  have HN := Lib.hid hn
  rw [← hn] at hel
  go_enter Tryz.func64, Tryz.ntmps64
  go_wp2_with fail
  refine HE.out.mono ?_; rintro e w1 ⟨v1, rfl, ho, hb⟩
  rw [← HBE.out] at hb
  rw [← hn] at ho
  obtain ⟨A, c, hv1⟩ := own_slice ho
  subst hv1
  have HP1 := Lib.hid (Prs.of_own ho)
  have HB1 := Lib.hid hb
  have HS1 : Hid (B ≤ w1.heap.size) := by have := hb.size; have := HBE.out; show _ ≤ _; omega
  clear hb ho f10 HE hn
  go_wp2_with fail
  go_loopw [15, 5] (fun k va wr => ∃ j : Nat, j ≤ n ∧ k = .int .i64 j ∧ Hid (wr.ownsRow B 3 1 va j (ivals ((es.take j).map (·.1))) ∧ Prs wr wr.heap.size (.slice A n c) es ∧ Below B w wr ∧ B ≤ wr.heap.size)) (fun k _ _ => n - (intOf k).toNat)
  case atStart => exact ⟨0, Nat.zero_le _, rfl, World.ownsRow_nil _ _ _ _, HP1.out, HB1.out, HS1.out⟩
  case round =>
    obtain ⟨j, hj, rfl, HJ⟩ := hrel
    obtain ⟨ho, hp, hb, hs⟩ := HJ.out
    obtain ⟨Aa, ca, hva⟩ := own_slice ho
    subst hva
    by_cases hlt : j < n
    · have hje : j < es.length := by have := HN.out; omega
      obtain ⟨b, o, hA, hbl, p0, p1⟩ := hp.at j hje
      subst hA
      have HFT := Lib.hid (fst_take es j hje)
      have HLT : Hid (((es.take j).map (·.1)).length = j) := by show _ = _; simp; omega
      generalize es[j] = z at *
      obtain ⟨z0, z1⟩ := z
      simp only at p0 p1 HFT
      have hbl1 : Below wr.heap.size wr ((wr.alloc (.cells #[.int .i64 z0, .int .i64 z1] 60)).alloc (.cells #[.int .i64 z0] 3)) := below2 wr _ _
      have HOA := Lib.hid (own_below ho hbl1)
      have HPA := Lib.hid (hp.up hbl1)
      have HBA : Hid (Below B w ((wr.alloc (.cells #[.int .i64 z0, .int .i64 z1] 60)).alloc (.cells #[.int .i64 z0] 3))) := hb.trans (hbl1.mono hs)
      have HSA := Lib.hid hs
      clear ho hp hb hs HJ HP1 HB1 HS1 hbl1
      go_wp2_with (at_builtin; refine wpList_append_own_at _ rfl (.tmp 19) (.tmp 22) 42 rfl B 3 i3 (.int .i64 0) 1 8 Tryz.underlying42 hi3 hz30 hz31 hz32 rfl (by decide) _ _ _ rfl HOA.out ⟨wr.heap.size + 1, 0, none⟩ 1 1 [.int .i64 z0] rfl rfl (by simpa using one_new (wr.alloc (.cells #[.int .i64 z0, .int .i64 z1] 60)) 3 (.int .i64 z0)) (one_cell rfl) (by unfold maxLen; omega) (by omega) (by have := HSA.out; simp; omega) ?_)
      intro v7 w7 hown7 hgrow7 _ _
      have hgb : ∀ k, (Value.slice Aa j ca).ownBlock = some k → B ≤ k := fun k hk => (HOA.out.lt k hk).1
      have HNX : Hid (w7.ownsRow B 3 1 v7 (j + 1) (ivals ((es.take (j + 1)).map (·.1))) ∧ Prs w7 w7.heap.size (.slice (some ⟨b, o, none⟩) n c) es ∧ Below B w w7 ∧ B ≤ w7.heap.size) := by
        refine ⟨?_, ?_, HBA.out.grown hgrow7 (by have := HSA.out; simp; omega) hgb, by have h1 := hgrow7.size; have h2 := HSA.out; simp at h1; omega⟩
        · rw [← HFT.out, ← ivals_snoc']
          have h := hown7
          try rw [← List.map_take] at h
          exact h
        · exact (HPA.out.grown HOA.out (by decide) hgrow7).mono hgrow7.size (fun _ _ => rfl)
      clear hown7 hgrow7 hgb
      go_wp2_with fail
      go_roundw
      case rel => exact ⟨j + 1, by omega, by go_num, HNX⟩
      case measure => simp [intOf]; omega
    · have HJN : Hid (j = es.length ∧ (es.take j).map (·.1) = es.map (·.1)) := by
        have e : j = es.length := by have := HN.out; omega
        exact ⟨e, by rw [e, List.take_length]⟩
      have HO := Lib.hid ho; have HBB := Lib.hid hb
      clear ho hp hb hs HJ HP1 HB1 HS1
      go_wp2_with fail
      go_ret
      refine ⟨_, rfl, ?_, HBB.out⟩
      have h := HO.out
      rw [HJN.out.2] at h
      rw [List.length_map, ← HJN.out.1]
      exact h

end Go.Proofs.YtagkgejdammflaaGreat
