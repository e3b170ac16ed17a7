/- Contracts: Span, Front. -/
import Derived.Test.YtbomkifnhkmkoaaA2
import Derived.Test.YtbomkifnhkmkoaaK2
namespace Go.Proofs.Ytbomkifnhkmkoaa
open Go.RowKit Fl
set_option maxRecDepth 100000

set_option maxHeartbeats 4000000 in
theorem ahead_bare (w : World) (vg vR : Value) (a b c d e : Int) (At : Option Addr) (ct : Nat) (now sp : Int) :
    Calls Try.prog 30 #[vg, .agg (tcells a b c d e (.slice At 0 ct)), .int .i64 now, .int .i64 sp, vR] w (RetAhead ([], (-1, 0)) w) := by
  have HB0 := Lib.hid (below2 w (.cells (tcells a b c d e (.slice At 0 ct)) 40) (.cells #[.int .i64 0, .int .i64 0] 47))
  have HRW := Lib.hid ((Row.new w 40 (tcells a b c d e (.slice At 0 ct))).alloc (.cells #[.int .i64 0, .int .i64 0] 47))
  have hro := Row.new (w.alloc (.cells (tcells a b c d e (.slice At 0 ct)) 40)) 47 #[.int .i64 0, .int .i64 0]
  rw [World.size_alloc] at hro
  have HRO := Lib.hid hro
  clear hro
  go_enter Try.func30, Try.ntmps30
  go_upto_region 1 with (fail)
  obtain ⟨n0, hn0⟩ : ∃ n, n = w.heap.size := ⟨_, rfl⟩
  obtain ⟨n1, hn1⟩ : ∃ n, n = n0 + 1 := ⟨_, rfl⟩
  rw [← hn0] at HRW HRO HB0 ⊢
  rw [← hn1] at HRO ⊢
  have HN : Hid (n0 = w.heap.size ∧ n1 = n0 + 1) := ⟨hn0, hn1⟩
  clear hn0 hn1
  generalize (w.alloc (.cells (tcells a b c d e (.slice At 0 ct)) 40)).alloc (.cells #[.int .i64 0, .int .i64 0] 47) = W0 at *
  have e5 := HRW.out.cell 5; have o0 := HRO.out.cell 0; have o1 := HRO.out.cell 1; have z0 := HRO.out.frozen 0; have z1 := HRO.out.frozen 1
  simp only [List.getElem?_toArray, List.getElem?_cons_zero, List.getElem?_cons_succ] at e5 o0 o1
  go_wp2_with fail
  have r1 : Row (W0.setCell ⟨n1, 0, none⟩ (.int .i64 (-1))) n1 47 #[.int .i64 (-1), .int .i64 0] := HRO.out.set 0 _
  have r2 : Row ((W0.setCell ⟨n1, 0, none⟩ (.int .i64 (-1))).setCell ⟨n1, 1, none⟩ (.int .i64 0)) n1 47 #[.int .i64 (-1), .int .i64 0] := r1.set 1 _
  refine bodyPost_ret (results_tmp_cell_row rfl _ _ n1 47 #[.int .i64 (-1), .int .i64 0] (0, 0) _ rfl r2 Try.underlying47 rfl Try.size47) rfl ?_
  have hn := HN.out
  refine ⟨_, rfl, World.ownsRow_nil _ _ _ _, ?_⟩
  rw [← hn.1]; exact (HB0.out.setCell (p := ⟨n1, 0, none⟩) (by show n0 ≤ n1; omega) _).setCell (p := ⟨n1, 1, none⟩) (by show n0 ≤ n1; omega) _

set_option maxHeartbeats 8000000 in
theorem span_of (w : World) (vg vR : Value) (a b c d e : Int) (At : Option Addr) (ct : Nat) (tr : List Int) (now sp : Int) (r : List Int × (Int × Int))
    (htr : Rd w w.heap.size (.slice At tr.length ct) (ivals tr)) (htl : tr.length ≤ 1000) (hrl : r.1.length ≤ 1000)
    (HA : ∀ W, Below w.heap.size w W → Calls Try.prog 30 #[vg, .agg (tcells a b c d e (.slice At tr.length ct)), .int .i64 now, .int .i64 sp, vR] W (RetAhead r W)) :
    Calls Try.prog 15 #[vg, .agg (tcells a b c d e (.slice At tr.length ct)), .int .i64 now, .int .i64 sp, vR] w (RetOwn w.heap.size (r.1.reverse ++ tr) w) := by
  have hb0 := (Below.refl w.heap.size w).alloc (Nat.le_refl _) (.cells (tcells a b c d e (.slice At tr.length ct)) 40)
  have HB0 := Lib.hid hb0
  have HRW := Lib.hid (Row.new w 40 (tcells a b c d e (.slice At tr.length ct)))
  have HTR := Lib.hid htr
  have HAH := Lib.hid (HA _ hb0)
  have HLL : Hid (tr.length ≤ 1000 ∧ r.1.length ≤ 1000) := ⟨htl, hrl⟩
  obtain ⟨s, hs⟩ : ∃ s, r.1.reverse ++ tr = s := ⟨_, rfl⟩
  rw [hs]
  have HSS := Lib.hid hs
  clear hb0 htr htl hrl HA hs
  obtain ⟨i3, hi3, hz30, hz31, hz32⟩ := info_parts Try.info3n
  go_enter Try.func15, Try.ntmps15
  go_upto_region 1 with (fail)
  obtain ⟨n0, hn0⟩ : ∃ n, n = w.heap.size := ⟨_, rfl⟩
  rw [← hn0] at HRW HB0 HTR ⊢
  have HN := Lib.hid hn0
  clear hn0
  generalize w.alloc (.cells (tcells a b c d e (.slice At tr.length ct)) 40) = W0 at *
  have e0 := HRW.out.cell 0; have e1 := HRW.out.cell 1; have e2 := HRW.out.cell 2; have e3 := HRW.out.cell 3; have e4 := HRW.out.cell 4; have e5 := HRW.out.cell 5
  simp only [List.getElem?_toArray, List.getElem?_cons_zero, List.getElem?_cons_succ] at e0 e1 e2 e3 e4 e5
  go_wp2_with fail
  refine HAH.out.mono ?_; rintro x w1 ⟨v1, rfl, ho1, hb1⟩
  obtain ⟨A1, c1, hv1⟩ := own_slice ho1
  subst hv1
  obtain ⟨es, q1, q2⟩ := r
  simp only at ho1 HLL HSS ⊢
  have hba := hb1.alloc hb1.size (.cells #[.int .i64 q1, .int .i64 q2] 47)
  have HB1 : Hid (Below n0 w (w1.alloc (.cells #[.int .i64 q1, .int .i64 q2] 47))) := HB0.out.trans (hba.mono (by have := HB0.out.size; have := HN.out; omega))
  have HR1 := Lib.hid (Below.row hba HRW.out HRW.out.lt)
  have HNB : Hid (n0 < W0.heap.size ∧ W0.heap.size ≤ w1.heap.size) := ⟨HRW.out.lt, hb1.size⟩
  have HO1 := Lib.hid (own_below ho1 ((Below.refl w1.heap.size w1).alloc (Nat.le_refl _) (.cells #[.int .i64 q1, .int .i64 q2] 47)))
  clear hba hb1 ho1 e0 e1 e2 e3 e4 e5 HB0 HRW HAH
  generalize W0.heap.size = nb at *
  go_upto_region 2 with (fail)
  have hsz : nb ≤ (w1.alloc (.cells #[.int .i64 q1, .int .i64 q2] 47)).heap.size := by have := HNB.out; simp; omega
  generalize w1.alloc (.cells #[.int .i64 q1, .int .i64 q2] 47) = w2 at *
  go_wp2_with fail
  refine (reverse_own w2 nb _ es HO1.out hsz (by have := HLL.out; omega)).mono ?_; rintro x w3 ⟨rfl, ho3, hb3⟩
  have HB3 : Hid (Below n0 w w3) := HB1.out.trans (hb3.mono (by have := HNB.out; omega))
  have HR3 := Lib.hid (Below.row hb3 HR1.out HNB.out.1)
  have HO3 : Hid (w3.ownsRow n0 3 1 (.slice A1 es.length c1) es.length (ivals es.reverse)) := own_base ho3 (by have := HNB.out; omega)
  have hlr : es.reverse.length = es.length := List.length_reverse
  clear hb3 ho3 HB1 HR1 HO1 HNB hsz
  have HLR := Lib.hid hlr
  clear hlr
  generalize es.reverse = er at *
  have e5 := HR3.out.cell 5
  simp only [List.getElem?_toArray, List.getElem?_cons_zero, List.getElem?_cons_succ] at e5
  generalize es.length = k at *
  go_wp2_with (at_builtin; refine wpList_app_rd rfl (.tmp 24) (.tmp 26) 38 rfl n0 3 i3 (.int .i64 0) Try.underlying38 hi3 hz30 hz31 hz32 rfl _ k er rfl HO3.out _ tr rfl ((HTR.out.below HB3.out (Nat.le_refl _)).mono (by have := HB3.out.size; have := HN.out; omega) (fun _ _ => rfl)) (by have := HLL.out; omega) (by have := HB3.out.size; have := HN.out; omega) ?_)
  intro v7 w7 hown7 hgrow7
  have HB7 : Hid (Below n0 w w7) := HB3.out.grown hgrow7 (by have := HB3.out.size; have := HN.out; omega) (fun kk hk => (HO3.out.lt kk hk).1)
  have hl7 : k + tr.length = s.length := by rw [← HSS.out, List.length_append, HLR.out]
  rw [hl7, HSS.out] at hown7
  go_wp2_with fail
  go_ret
  exact ⟨_, rfl, by rw [← HN.out]; exact hown7, by rw [← HN.out]; exact HB7.out⟩

set_option maxHeartbeats 8000000 in
theorem front_of (w : World) (vg vR : Value) (a b c d e : Int) (At : Option Addr) (ct : Nat) (tr : List Int) (now sp : Int) (r : List Int × (Int × Int))
    (HA : ∀ W, Below w.heap.size w W → Calls Try.prog 30 #[vg, .agg (tcells a b c d e (.slice At tr.length ct)), .int .i64 now, .int .i64 sp, vR] W (RetAhead r W)) :
    Calls Try.prog 16 #[vg, .agg (tcells a b c d e (.slice At tr.length ct)), .int .i64 now, .int .i64 sp, vR] w fun x w' => x = .returned (.agg #[.int .i64 r.2.1, .int .i64 r.2.2]) ∧ Below w.heap.size w w' := by
  have hb0 := below2 w (.cells (tcells a b c d e (.slice At tr.length ct)) 40) (.cells #[.int .i64 0, .int .i64 0] 47)
  have HB0 := Lib.hid hb0
  have HRW := Lib.hid ((Row.new w 40 (tcells a b c d e (.slice At tr.length ct))).alloc (.cells #[.int .i64 0, .int .i64 0] 47))
  have hro := Row.new (w.alloc (.cells (tcells a b c d e (.slice At tr.length ct)) 40)) 47 #[.int .i64 0, .int .i64 0]
  rw [World.size_alloc] at hro
  have HRO := Lib.hid hro
  have HAH := Lib.hid (HA _ hb0)
  clear hb0 HA hro
  go_enter Try.func16, Try.ntmps16
  go_upto_region 1 with (fail)
  obtain ⟨n0, hn0⟩ : ∃ n, n = w.heap.size := ⟨_, rfl⟩
  obtain ⟨n1, hn1⟩ : ∃ n, n = n0 + 1 := ⟨_, rfl⟩
  rw [← hn0] at HRW HRO HB0 ⊢
  rw [← hn1] at HRO ⊢
  have HN : Hid (n0 = w.heap.size ∧ n1 = n0 + 1) := ⟨hn0, hn1⟩
  clear hn0 hn1
  generalize (w.alloc (.cells (tcells a b c d e (.slice At tr.length ct)) 40)).alloc (.cells #[.int .i64 0, .int .i64 0] 47) = W0 at *
  have e0 := HRW.out.cell 0; have e1 := HRW.out.cell 1; have e2 := HRW.out.cell 2; have e3 := HRW.out.cell 3; have e4 := HRW.out.cell 4; have e5 := HRW.out.cell 5
  simp only [List.getElem?_toArray, List.getElem?_cons_zero, List.getElem?_cons_succ] at e0 e1 e2 e3 e4 e5
  go_wp2_with fail
  refine HAH.out.mono ?_; rintro x w1 ⟨v1, rfl, ho1, hb1⟩
  obtain ⟨es, q1, q2⟩ := r
  simp only at ho1 ⊢
  have hba := hb1.alloc hb1.size (.cells #[.int .i64 q1, .int .i64 q2] 47)
  have HB1 : Hid (Below n0 w (w1.alloc (.cells #[.int .i64 q1, .int .i64 q2] 47))) := HB0.out.trans (hba.mono (by have := HB0.out.size; have := HN.out; omega))
  have HO1 := Lib.hid (Below.row hba HRO.out HRO.out.lt)
  have HQ1 := Lib.hid (Row.new w1 47 #[.int .i64 q1, .int .i64 q2])
  clear hba hb1 ho1 e0 e1 e2 e3 e4 e5 HB0 HRW HAH HRO
  go_upto_region 2 with (fail)
  obtain ⟨nq, hnq⟩ : ∃ n, n = w1.heap.size := ⟨_, rfl⟩
  rw [← hnq] at HQ1 ⊢
  clear hnq
  generalize w1.alloc (.cells #[.int .i64 q1, .int .i64 q2] 47) = w2 at *
  have f0 := HQ1.out.cell 0; have f1 := HQ1.out.cell 1; have o0 := HO1.out.cell 0; have o1 := HO1.out.cell 1; have z0 := HO1.out.frozen 0; have z1 := HO1.out.frozen 1
  simp only [List.getElem?_toArray, List.getElem?_cons_zero, List.getElem?_cons_succ] at f0 f1 o0 o1
  go_wp2_with fail
  have r1 : Row (w2.setCell ⟨n1, 0, none⟩ (.int .i64 q1)) n1 47 #[.int .i64 q1, .int .i64 0] := HO1.out.set 0 _
  have r2 : Row ((w2.setCell ⟨n1, 0, none⟩ (.int .i64 q1)).setCell ⟨n1, 1, none⟩ (.int .i64 q2)) n1 47 #[.int .i64 q1, .int .i64 q2] := r1.set 1 _
  refine bodyPost_ret (results_cell_row rfl _ _ n1 47 #[.int .i64 q1, .int .i64 q2] (0, 0) _ rfl r2 Try.underlying47 rfl Try.size47) rfl ?_
  have hn := HN.out
  refine ⟨rfl, ?_⟩
  rw [← hn.1]; exact (HB1.out.setCell (p := ⟨n1, 0, none⟩) (by show n0 ≤ n1; omega) _).setCell (p := ⟨n1, 1, none⟩) (by show n0 ≤ n1; omega) _

end Go.Proofs.Ytbomkifnhkmkoaa
