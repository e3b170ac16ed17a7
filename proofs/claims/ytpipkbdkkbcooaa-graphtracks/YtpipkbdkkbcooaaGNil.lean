/- Contracts: of no graph. -/
import Derived.Test.YtpipkbdkkbcooaaJoins
import Derived.LoopN
namespace Go.Proofs.Ytpipkbdkkbcooaa
open Go.RowKit Fl
set_option maxRecDepth 100000

theorem results_cell_tmp_row {P : Program} {fn : Func} {p u : Tmp} {ty : TypeId} (h : fn.results = #[.cell p ty, .tmp u]) (tmps : Array Value) (w : World) (g : Nat) (t : TypeId) (cs : Array Value) (fr : Nat × Nat) (d : TypeDesc)
    (hp : tmps.getD p undef = .pointer (some ⟨g, 0, none⟩)) (hg : w.heap[g]? = some (.cells cs t fr))
    (hu : P.underlying ty = some d) (hd : (match d with | .struct _ | .array _ _ => true | _ => false) = true) (hi : (P.info? ty).map (·.size) = some cs.size) :
    (results fn tmps).run P w = .ok (.tuple #[.agg cs, tmps.getD u undef]) w := by
  rw [results_cell_tmp h, hp]
  simp [asAddr, run_loadVar_row w g t ty cs fr d hg hu hd hi, Result.andThen]

theorem Try.size41 : (Try.prog.info? 41).map (·.size) = some 2 := by kernel_rfl

theorem len_nil (w : World) (s : Int) : Calls Try.prog 23 #[.pointer none, .int .i64 s] w fun e w' => e = .returned (.int .i64 0) ∧ w = w' := by
  go_enter Try.func23, Try.ntmps23
  go_wp2_with fail
  refine (has_nil w s).mono ?_; rintro e w' ⟨rfl, rfl⟩
  go_wp2_with fail
  go_ret
  exact ⟨rfl, rfl⟩

theorem ends_nil (w : World) (n : Int) : Calls Try.prog 21 #[.pointer none, .int .i64 n] w fun e w' => e = .returned (.slice none 0 0) ∧ w = w' := by
  go_enter Try.func21, Try.ntmps21
  go_wp2_with fail
  go_ret
  exact ⟨rfl, rfl⟩

theorem beside_nil (w : World) (n : Int) : Calls Try.prog 22 #[.pointer none, .int .i64 n] w fun e w' => e = .returned (.slice none 0 0) ∧ w = w' := by
  go_enter Try.func22, Try.ntmps22
  go_wp2_with fail
  go_ret
  exact ⟨rfl, rfl⟩

theorem part_nil (w : World) (n : Int) : Calls Try.prog 25 #[.pointer none, .int .i64 n] w fun e w' => e = .returned (.int .i64 (-1)) ∧ Below w.heap.size w w' := by
  have HB := Lib.hid ((Below.refl w.heap.size w).alloc (Nat.le_refl _) (.cells #[.int .i64 n] 3))
  go_enter Try.func25, Try.ntmps25
  go_wp2_with fail
  go_ret
  exact ⟨rfl, HB.out⟩

theorem node_nil (w : World) (s k : Int) : Calls Try.prog 39 #[.pointer none, .agg #[.int .i64 s, .int .i64 k]] w fun e w' => e = .returned (.tuple #[.int .i64 0, .bool false]) ∧ Below w.heap.size w w' := by
  have HB := Lib.hid ((Below.refl w.heap.size w).alloc (Nat.le_refl _) (.cells #[.int .i64 s, .int .i64 k] 41))
  go_enter Try.func39, Try.ntmps39
  go_wp2_with fail
  refine (has_nil _ s).mono ?_; rintro e w' ⟨rfl, rfl⟩
  go_wp2_with fail
  go_ret2
  exact ⟨rfl, HB.out⟩

theorem pointAt_nil (w : World) (s k : Int) : Calls Try.prog 45 #[.pointer none, .agg #[.int .i64 s, .int .i64 k]] w fun e w' => e = .returned (.int .i64 (-1)) ∧ Below w.heap.size w w' := by
  have HB := Lib.hid ((Below.refl w.heap.size w).alloc (Nat.le_refl _) (.cells #[.int .i64 s, .int .i64 k] 41))
  go_enter Try.func45, Try.ntmps45
  go_wp2_with fail
  refine (node_nil _ s k).mono ?_; rintro e w1 ⟨rfl, hb⟩
  have HB1 := Lib.hid (HB.out.trans (hb.mono HB.out.size))
  clear hb
  go_wp2_with fail
  go_ret
  exact ⟨rfl, HB1.out⟩

theorem around_nil (w : World) (s k : Int) : Calls Try.prog 14 #[.pointer none, .agg #[.int .i64 s, .int .i64 k]] w fun e w' => e = .returned (.slice none 0 0) ∧ Below w.heap.size w w' := by
  have HB := Lib.hid ((Below.refl w.heap.size w).alloc (Nat.le_refl _) (.cells #[.int .i64 s, .int .i64 k] 41))
  go_enter Try.func14, Try.ntmps14
  go_wp2_with fail
  refine (node_nil _ s k).mono ?_; rintro e w1 ⟨rfl, hb⟩
  have HB1 := Lib.hid (HB.out.trans (hb.mono HB.out.size))
  clear hb
  go_wp2_with fail
  go_ret
  exact ⟨rfl, HB1.out⟩

set_option maxHeartbeats 1000000 in
theorem near_nil (w : World) (s : Int) : Calls Try.prog 16 #[.pointer none, .int .i64 s] w fun e w' => ∃ A c, e = .returned (.slice A 0 c) ∧ Below w.heap.size w w' := by
  go_enter Try.func16, Try.ntmps16
  go_wp2_with fail
  refine wp_loop_rounds 3 ?_
  rw [rounds_succ]
  go_wp2_with fail
  refine (around_nil w s 0).mono ?_; rintro e w1 ⟨rfl, hb1⟩
  have HB1 := Lib.hid hb1
  clear hb1
  go_wp2_with fail
  refine wp_loop_rounds 1 ?_
  rw [rounds_succ]
  go_wp2_with fail
  rw [rounds_succ]
  go_wp2_with fail
  refine (around_nil w1 s 1).mono ?_; rintro e w2 ⟨rfl, hb2⟩
  have HB2 := Lib.hid (HB1.out.trans (hb2.mono HB1.out.size))
  clear hb2
  go_wp2_with fail
  refine wp_loop_rounds 1 ?_
  rw [rounds_succ]
  go_wp2_with fail
  rw [rounds_succ]
  go_wp2_with fail
  refine (eachOnce_any w2 w2.heap.size (.slice none 0 0) [] (World.ownsRow_nil _ _ _ _) (Nat.le_refl _) (by simp)).mono ?_; rintro e w3 ⟨v3, rfl, ho3, hb3⟩
  rw [riseL_nil] at ho3
  obtain ⟨A3, c3, hv3⟩ := own_slice ho3
  subst hv3
  have HB3 := Lib.hid (HB2.out.trans (hb3.mono HB2.out.size))
  clear ho3 hb3
  go_wp2_with fail
  go_ret
  exact ⟨_, _, rfl, HB3.out⟩

theorem indexFunc59 (w : World) (p : Value) : Calls Try.prog 59 #[.slice none 0 0, .func (.func 60) #[] #[p]] w fun e w' => e = .returned (.int .i64 (-1)) ∧ w = w' := by
  go_enter Try.func59, Try.ntmps59
  go_wp2_with fail
  refine wp_loop_rounds 1 ?_
  rw [rounds_succ]
  go_wp2_with fail
  go_ret
  exact ⟨rfl, rfl⟩

set_option maxHeartbeats 1000000 in
theorem way_nil (w : World) (s k x : Int) (b o c : Nat) (h : w.cell? ⟨b, o, none⟩ = some (.int .i64 x)) : Calls Try.prog 43 #[.pointer none, .agg #[.int .i64 s, .int .i64 k], .slice (some ⟨b, o, none⟩) 1 c] w fun e w' => e = .returned (.tuple #[.slice none 0 0, .bool false]) ∧ Below w.heap.size w w' := by
  have k0 := cell_alloc (o := .cells #[.int .i64 s, .int .i64 k] 41) h
  have HB0 : Hid (Below w.heap.size w ((w.alloc (.cells #[.int .i64 s, .int .i64 k] 41)).alloc (.cells #[.int .i64 x] 3))) := below2 w _ _
  clear h
  go_enter Try.func43, Try.ntmps43
  go_wp2_with fail
  refine wp_loop_rounds 1 ?_
  rw [rounds_succ]
  go_wp2_with fail
  refine (around_nil _ s k).mono ?_; rintro e w1 ⟨rfl, hb1⟩
  have HB1 := Lib.hid (HB0.out.trans (hb1.mono HB0.out.size))
  clear hb1 k0
  go_wp2_with fail
  refine (indexFunc59 w1 _).mono ?_; rintro e w2 ⟨rfl, rfl⟩
  go_wp2_with fail
  go_ret2
  exact ⟨rfl, HB1.out⟩

set_option maxHeartbeats 1000000 in
theorem next_nil (w : World) (s k : Int) (r : Value) : Calls Try.prog 20 #[.pointer none, .agg #[.int .i64 s, .int .i64 k], r] w fun e w' => e = .returned (.tuple #[.agg #[.int .i64 0, .int .i64 0], .bool false]) ∧ Below w.heap.size w w' := by
  have HB0 : Hid (Below w.heap.size w ((w.alloc (.cells #[.int .i64 s, .int .i64 k] 41)).alloc (.cells #[.int .i64 0, .int .i64 0] 41))) := below2 w _ _
  have HR0 := Lib.hid ((Row.new w 41 #[.int .i64 s, .int .i64 k]).alloc (.cells #[.int .i64 0, .int .i64 0] 41))
  have hr1 := Row.new (w.alloc (.cells #[.int .i64 s, .int .i64 k] 41)) 41 #[.int .i64 0, .int .i64 0]
  rw [World.size_alloc] at hr1
  have HS0 := Lib.hid hr1
  clear hr1
  go_enter Try.func20, Try.ntmps20
  go_upto_region 1 with (fail)
  obtain ⟨n0, hn0⟩ : ∃ n, n = w.heap.size := ⟨_, rfl⟩
  obtain ⟨n1, hn1⟩ : ∃ n, n = n0 + 1 := ⟨_, rfl⟩
  rw [← hn0] at HB0 HR0 HS0 ⊢
  rw [← hn1] at HS0 ⊢
  have HN0 : Hid (n0 = w.heap.size ∧ n1 = n0 + 1) := ⟨hn0, hn1⟩
  clear hn0 hn1
  generalize (w.alloc (.cells #[.int .i64 s, .int .i64 k] 41)).alloc (.cells #[.int .i64 0, .int .i64 0] 41) = W0 at *
  have e0 := HR0.out.cell 0; have e1 := HR0.out.cell 1
  simp only [List.getElem?_toArray, List.getElem?_cons_zero, List.getElem?_cons_succ] at e0 e1
  go_wp2_with fail
  refine (around_nil W0 s k).mono ?_; rintro e w1 ⟨rfl, hb1⟩
  have HB1 : Hid (Below n0 w w1) := HB0.out.trans (hb1.mono (by have := HR0.out.lt; omega))
  have HR1 := Lib.hid (Below.row hb1 HR0.out HR0.out.lt)
  have HS1 := Lib.hid (Below.row hb1 HS0.out HS0.out.lt)
  clear hb1 e0 e1
  have e0 := HR1.out.cell 0; have e1 := HR1.out.cell 1
  simp only [List.getElem?_toArray, List.getElem?_cons_zero, List.getElem?_cons_succ] at e0 e1
  go_wp2_with fail
  refine (pointAt_nil w1 s k).mono ?_; rintro e w2 ⟨rfl, hb2⟩
  have HB2 : Hid (Below n0 w w2) := HB1.out.trans (hb2.mono (by have := HR1.out.lt; omega))
  have HS2 := Lib.hid (Below.row hb2 HS1.out HS1.out.lt)
  clear hb2 e0 e1
  have e0 := HS2.out.cell 0; have e1 := HS2.out.cell 1; have z0 := HS2.out.frozen 0; have z1 := HS2.out.frozen 1
  simp only [List.getElem?_toArray, List.getElem?_cons_zero, List.getElem?_cons_succ] at e0 e1
  go_wp2_with fail
  have r1 : Row (w2.setCell ⟨n1, 0, none⟩ (.int .i64 0)) n1 41 #[.int .i64 0, .int .i64 0] := HS2.out.set 0 _
  have r2 : Row ((w2.setCell ⟨n1, 0, none⟩ (.int .i64 0)).setCell ⟨n1, 1, none⟩ (.int .i64 0)) n1 41 #[.int .i64 0, .int .i64 0] := r1.set 1 _
  refine bodyPost_ret (results_cell_tmp_row rfl _ _ n1 41 #[.int .i64 0, .int .i64 0] (0, 0) _ rfl r2 Try.underlying41 rfl Try.size41) rfl ?_
  have hn := HN0.out
  exact ⟨rfl, by rw [← hn.1]; exact (HB2.out.setCell (p := ⟨n1, 0, none⟩) (by show n0 ≤ n1; omega) _).setCell (p := ⟨n1, 1, none⟩) (by show n0 ≤ n1; omega) _⟩

end Go.Proofs.Ytpipkbdkkbcooaa
