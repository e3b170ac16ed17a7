/- Contracts: of no register. -/
import Derived.Test.YtifcgkpannlnnaaJ4
import Derived.LoopN
namespace Go.Proofs.Ytifcgkpannlnnaa
open Go.RowKit Fl
set_option maxRecDepth 100000

theorem results_cell_tmp_row {P : Program} {fn : Func} {p u : Tmp} {ty : TypeId} (h : fn.results = #[.cell p ty, .tmp u]) (tmps : Array Value) (w : World) (g : Nat) (t : TypeId) (cs : Array Value) (fr : Nat × Nat) (d : TypeDesc)
    (hp : tmps.getD p undef = .pointer (some ⟨g, 0, none⟩)) (hg : w.heap[g]? = some (.cells cs t fr))
    (hu : P.underlying ty = some d) (hd : (match d with | .struct _ | .array _ _ => true | _ => false) = true) (hi : (P.info? ty).map (·.size) = some cs.size) :
    (results fn tmps).run P w = .ok (.tuple #[.agg cs, tmps.getD u undef]) w := by
  rw [results_cell_tmp h, hp]
  simp [asAddr, run_loadVar_row w g t ty cs fr d hg hu hd hi, Result.andThen]
theorem Try.size58 : (Try.prog.info? 58).map (·.size) = some 6 := by kernel_rfl

/-- A train's cells. -/
abbrev tcells (a b c d e : Int) (v : Value) : Array Value := #[.int .i64 a, .int .i64 b, .int .i64 c, .int .i64 d, .int .i64 e, v]
theorem Row.rows {w : World} {g : Nat} {t : TypeId} {cs cs' : Array Value} (h : Row w g t cs) (e : cs = cs') : Row w g t cs' := e ▸ h

set_option maxHeartbeats 2000000 in
theorem find_nil (w : World) (id : Int) : Calls Try.prog 40 #[.pointer none, .int .i64 id] w fun e w' => e = .returned (.tuple #[.agg (tcells 0 0 0 0 0 (.slice none 0 0)), .bool false]) ∧ Below w.heap.size w w' := by
  have HB := Lib.hid ((Below.refl w.heap.size w).alloc (Nat.le_refl _) (.cells (tcells 0 0 0 0 0 (.slice none 0 0)) 58))
  go_enter Try.func40, Try.ntmps40
  go_wp2_with fail
  refine bodyPost_ret (results_cell_tmp_row rfl _ _ w.heap.size 58 (tcells 0 0 0 0 0 (.slice none 0 0)) (0, 0) _ rfl (Row.new _ _ _) Try.underlying58 rfl Try.size58) rfl ?_
  exact ⟨rfl, HB.out⟩

set_option maxHeartbeats 2000000 in
theorem open_nil (w : World) (id now : Int) : Calls Try.prog 25 #[.pointer none, .int .i64 id, .int .i64 now] w fun e w' => e = .returned (.int .i64 7) ∧ w = w' := by
  go_enter Try.func25, Try.ntmps25
  go_wp2_with fail
  go_ret
  exact ⟨rfl, rfl⟩

theorem all_nil (w : World) : Calls Try.prog 28 #[.pointer none] w fun e w' => e = .returned (.slice none 0 0) ∧ w = w' := by
  go_enter Try.func28, Try.ntmps28
  go_wp2_with fail
  go_ret
  exact ⟨rfl, rfl⟩

set_option maxHeartbeats 2000000 in
theorem close_nil (w : World) (id : Int) : Calls Try.prog 27 #[.pointer none, .int .i64 id] w (RetL false w) := by
  go_enter Try.func27, Try.ntmps27
  go_wp2_with fail
  refine (find_nil w id).mono ?_; rintro e w1 ⟨rfl, hb⟩
  have HB1 := Lib.hid (hb.alloc hb.size (.cells (tcells 0 0 0 0 0 (.slice none 0 0)) 58))
  clear hb
  go_wp2_with fail
  go_ret
  exact ⟨rfl, HB1.out⟩

theorem those_nil (w : World) (p : Value) : Calls Try.prog 44 #[.pointer none, p] w fun e w' => e = .returned (.slice none 0 0) ∧ w = w' := by
  go_enter Try.func44, Try.ntmps44
  go_wp2_with fail
  refine (all_nil w).mono ?_; rintro e w1 ⟨rfl, rfl⟩
  go_wp2_with fail
  refine wp_loop_rounds 1 ?_
  rw [rounds_succ]
  go_wp2_with fail
  go_ret
  exact ⟨rfl, rfl⟩

set_option maxHeartbeats 2000000 in
theorem mute_nil (w : World) (a b : Int) : Calls Try.prog 29 #[.pointer none, .int .i64 a, .int .i64 b] w fun e w' => e = .returned (.slice none 0 0) ∧ Below w.heap.size w w' := by
  have HB := Lib.hid (below2 w (.cells #[.int .i64 a] 2) (.cells #[.int .i64 b] 2))
  go_enter Try.func29, Try.ntmps29
  go_wp2_with fail
  refine (those_nil _ _).mono ?_; rintro e w1 ⟨rfl, rfl⟩
  go_wp2_with fail
  refine wp_loop_rounds 1 ?_
  rw [rounds_succ]
  go_wp2_with fail
  go_ret
  exact ⟨rfl, HB.out⟩

set_option maxHeartbeats 2000000 in
theorem doubt_nil (w : World) (a b : Int) : Calls Try.prog 30 #[.pointer none, .int .i64 a, .int .i64 b] w fun e w' => e = .returned (.slice none 0 0) ∧ Below w.heap.size w w' := by
  have HB := Lib.hid (below2 w (.cells #[.int .i64 a] 2) (.cells #[.int .i64 b] 2))
  go_enter Try.func30, Try.ntmps30
  go_wp2_with fail
  refine (those_nil _ _).mono ?_; rintro e w1 ⟨rfl, rfl⟩
  go_wp2_with fail
  refine wp_loop_rounds 1 ?_
  rw [rounds_succ]
  go_wp2_with fail
  go_ret
  exact ⟨rfl, HB.out⟩

set_option maxHeartbeats 2000000 in
theorem note_nil (w : World) (now : Int) : Calls Try.prog 24 #[.pointer none, .pointer none, .int .i64 now, .agg #[.int .u8 0, .int .i64 0, .int .i64 0, .int .i64 0, .int .i64 0, .bool false, .slice none 0 0], .slice none 0 0] w fun e w' => e = .returned (.int .i64 7) ∧ Below w.heap.size w w' := by
  have HB := Lib.hid ((Below.refl w.heap.size w).alloc (Nat.le_refl _) (.cells #[.int .u8 0, .int .i64 0, .int .i64 0, .int .i64 0, .int .i64 0, .bool false, .slice none 0 0] 42))
  go_enter Try.func24, Try.ntmps24
  go_wp2_with fail
  refine (find_nil _ 0).mono ?_; rintro e w1 ⟨rfl, hb⟩
  have hb1 : Below w.heap.size w w1 := HB.out.trans (hb.mono HB.out.size)
  have HB1 := Lib.hid (hb1.alloc hb1.size (.cells (tcells 0 0 0 0 0 (.slice none 0 0)) 58))
  clear hb hb1 HB
  go_wp2_with fail
  go_ret
  exact ⟨rfl, HB1.out⟩

/-- Six cells written. -/
theorem put6 {W : World} {g : Nat} {t : TypeId} {cs : Array Value} (h : Row W g t cs) (hs : cs.size = 6) (v0 v1 v2 v3 v4 v5 : Value) :
    Row ((((((W.setCell ⟨g, 0, none⟩ v0).setCell ⟨g, 1, none⟩ v1).setCell ⟨g, 2, none⟩ v2).setCell ⟨g, 3, none⟩ v3).setCell ⟨g, 4, none⟩ v4).setCell ⟨g, 5, none⟩ v5) g t #[v0, v1, v2, v3, v4, v5] ∧
    (∀ B : Nat, B ≤ g → Below B W ((((((W.setCell ⟨g, 0, none⟩ v0).setCell ⟨g, 1, none⟩ v1).setCell ⟨g, 2, none⟩ v2).setCell ⟨g, 3, none⟩ v3).setCell ⟨g, 4, none⟩ v4).setCell ⟨g, 5, none⟩ v5)) ∧
    ∀ (base : Nat) (e : TypeId) (size n : Nat) (v : Value) (xs : List Value), W.ownsRow base e size v n xs → v.ownBlock ≠ some g → ((((((W.setCell ⟨g, 0, none⟩ v0).setCell ⟨g, 1, none⟩ v1).setCell ⟨g, 2, none⟩ v2).setCell ⟨g, 3, none⟩ v3).setCell ⟨g, 4, none⟩ v4).setCell ⟨g, 5, none⟩ v5).ownsRow base e size v n xs := by
  obtain ⟨l⟩ := cs
  match l, hs with
  | [a, b, c, d, e, f], _ =>
    have r0 := h.set 0 v0
    have r1 := r0.set 1 v1
    have r2 := r1.set 2 v2
    have r3 := r2.set 3 v3
    have r4 := r3.set 4 v4
    have r5 := r4.set 5 v5
    refine ⟨r5, fun B hB => ?_, fun base e size n v xs h hn => own_far (a := ⟨g, 5, none⟩) (own_far (a := ⟨g, 4, none⟩) (own_far (a := ⟨g, 3, none⟩) (own_far (a := ⟨g, 2, none⟩) (own_far (a := ⟨g, 1, none⟩) (own_far (a := ⟨g, 0, none⟩) h hn v0) hn v1) hn v2) hn v3) hn v4) hn v5⟩
    exact (((((((Below.refl B W).setCell (p := ⟨g, 0, none⟩) hB v0).setCell (p := ⟨g, 1, none⟩) hB v1).setCell (p := ⟨g, 2, none⟩) hB v2).setCell (p := ⟨g, 3, none⟩) hB v3).setCell (p := ⟨g, 4, none⟩) hB v4).setCell (p := ⟨g, 5, none⟩) hB v5)

/-- What 'find' tells. -/
def RetFind (a b c d e : Int) (vt : Value) (ok : Bool) (w : World) (x : Ending) (w' : World) : Prop := x = .returned (.tuple #[.agg (tcells a b c d e vt), .bool ok]) ∧ Below w.heap.size w w'
/-- What 'Get' tells. -/
def RetGet (a b c d e : Int) (tr : List Int) (ok : Bool) (w : World) (x : Ending) (w' : World) : Prop := ∃ v, x = .returned (.tuple #[.agg (tcells a b c d e v), .bool ok]) ∧ w'.ownsRow w.heap.size 3 1 v tr.length (ivals tr) ∧ Below w.heap.size w w'

set_option maxHeartbeats 4000000 in
theorem get_of (w : World) (r : Value) (id a b c d e : Int) (vt : Value) (tr : List Int) (ok : Bool) (hr : Rd w w.heap.size vt (ivals tr)) (hl : tr.length ≤ 100000)
    (hf : ∀ W, Below w.heap.size w W → Calls Try.prog 40 #[r, .int .i64 id] W (RetFind a b c d e vt ok W)) :
    Calls Try.prog 26 #[r, .int .i64 id] w (RetGet a b c d e tr ok w) := by
  have HB0 := Lib.hid ((Below.refl w.heap.size w).alloc (Nat.le_refl _) (.cells (tcells 0 0 0 0 0 (.slice none 0 0)) 58))
  have HR0 := Lib.hid (Row.new w 58 (tcells 0 0 0 0 0 (.slice none 0 0)))
  have HF := Lib.hid hf
  have HR := Lib.hid hr
  obtain ⟨A, cc, rfl, -, -⟩ := hr
  rw [ivals_length] at HF HR
  clear hf
  go_enter Try.func26, Try.ntmps26
  go_wp2_with fail
  obtain ⟨n0, hn0⟩ : ∃ n, w.heap.size = n := ⟨_, rfl⟩
  have HN := Lib.hid hn0
  rw [hn0] at HB0 HR0 HF HR ⊢
  clear hn0
  generalize w.alloc (.cells #[.int .i64 0, .int .i64 0, .int .i64 0, .int .i64 0, .int .i64 0, .slice none 0 0] 58) = w0 at *
  refine (HF.out _ HB0.out).mono ?_; rintro x w1 ⟨rfl, hb⟩
  have HR1 := Lib.hid (Below.row hb HR0.out HR0.out.lt)
  have HB1 : Hid (Below n0 w w1) := HB0.out.trans (hb.mono (Nat.le_of_lt HR0.out.lt))
  have HR2 := Lib.hid (HR1.out.alloc (.cells (tcells a b c d e (.slice A tr.length cc)) 58))
  have HRT := Lib.hid (Row.new w1 58 (tcells a b c d e (.slice A tr.length cc)))
  have HB2 : Hid (Below n0 w (w1.alloc (.cells (tcells a b c d e (.slice A tr.length cc)) 58))) := HB1.out.alloc (Nat.le_of_lt HR1.out.lt) _
  have HNE : Hid (n0 < w1.heap.size) := HR1.out.lt
  clear hb HR0 HB0 HR1 HB1
  go_upto_region 2 with (fail)
  obtain ⟨n1, hn1⟩ : ∃ n, w1.heap.size = n := ⟨_, rfl⟩
  rw [hn1] at HRT HNE ⊢
  clear hn1
  generalize w1.alloc (.cells #[.int .i64 a, .int .i64 b, .int .i64 c, .int .i64 d, .int .i64 e, .slice A tr.length cc] 58) = w2 at *
  have c5 := HRT.out.cell 5
  simp only [List.getElem?_toArray, List.getElem?_cons_zero, List.getElem?_cons_succ] at c5
  go_wp2_with fail
  refine (clone38 w2 n0 _ tr (HR.out.below HB2.out (Nat.le_refl _)) hl).mono ?_; rintro x w3 ⟨v3, rfl, ho, hb⟩
  obtain ⟨A3, c3, hv3⟩ := own_slice ho
  subst hv3
  have HRT3 := Lib.hid (Below.row hb HRT.out HRT.out.lt)
  have HR3 := Lib.hid (Below.row hb HR2.out HR2.out.lt)
  have HB3 : Hid (Below n0 w w3) := HB2.out.trans (hb.mono (Nat.le_of_lt HR2.out.lt))
  have HO3 := Lib.hid ho
  have HLT : Hid (n1 < w2.heap.size) := HRT.out.lt
  have HLT0 : Hid (n0 < w2.heap.size) := HR2.out.lt
  clear ho hb c5 HRT HR2 HB2 HR
  have f5 := HRT3.out.frozen 5
  have g5 := HRT3.out.cell 5
  simp only [List.getElem?_toArray, List.getElem?_cons_zero, List.getElem?_cons_succ] at g5
  have HRT4 := Lib.hid (HRT3.out.set 5 (.slice A3 tr.length c3))
  have HR4 := Lib.hid (HR3.out.far (p := ⟨n1, 5, none⟩) (by have := HNE.out; show n0 ≠ n1; omega) (.slice A3 tr.length c3))
  have HB4 : Hid (Below n0 w (w3.setCell ⟨n1, 5, none⟩ (.slice A3 tr.length c3))) := HB3.out.setCell (p := ⟨n1, 5, none⟩) (Nat.le_of_lt HNE.out) _
  have HO4 : Hid ((w3.setCell ⟨n1, 5, none⟩ (.slice A3 tr.length c3)).ownsRow w2.heap.size 3 1 (.slice A3 tr.length c3) tr.length (ivals tr)) := own_far HO3.out (fun h => by have h2 := (HO3.out.lt n1 h).1; have := HLT.out; omega) _
  go_upto_region 3 with (fail)
  generalize w3.setCell ⟨n1, 5, none⟩ (.slice A3 tr.length c3) = w4 at *
  clear f5 g5 HRT3 HR3 HB3 HO3
  have q0 := HR4.out.cell 0; have r0 := HR4.out.frozen 0; have p0 := HRT4.out.cell 0
  have q1 := HR4.out.cell 1; have r1 := HR4.out.frozen 1; have p1 := HRT4.out.cell 1
  have q2 := HR4.out.cell 2; have r2 := HR4.out.frozen 2; have p2 := HRT4.out.cell 2
  have q3 := HR4.out.cell 3; have r3 := HR4.out.frozen 3; have p3 := HRT4.out.cell 3
  have q4 := HR4.out.cell 4; have r4 := HR4.out.frozen 4; have p4 := HRT4.out.cell 4
  have q5 := HR4.out.cell 5; have r5 := HR4.out.frozen 5; have p5 := HRT4.out.cell 5
  simp only [List.setIfInBounds_toArray, List.set_cons_zero, List.set_cons_succ, List.getElem?_toArray, List.getElem?_cons_zero, List.getElem?_cons_succ] at p0 q0 p1 q1 p2 q2 p3 q3 p4 q4 p5 q5
  go_wp2_with fail
  obtain ⟨hrow, hbel, hown⟩ := put6 HR4.out rfl (.int .i64 a) (.int .i64 b) (.int .i64 c) (.int .i64 d) (.int .i64 e) (.slice A3 tr.length c3)
  refine bodyPost_ret (results_cell_tmp_row rfl _ _ n0 58 (tcells a b c d e (.slice A3 tr.length c3)) (0, 0) _ rfl hrow Try.underlying58 rfl Try.size58) rfl ?_
  have hbw := hbel n0 (Nat.le_refl _)
  refine ⟨_, rfl, ?_, by rw [HN.out]; exact HB4.out.trans hbw⟩
  rw [HN.out]
  exact own_base (hown _ _ _ _ _ _ HO4.out (fun h => by have h2 := (HO4.out.lt n0 h).1; have := HLT0.out; omega)) (Nat.le_of_lt HLT0.out)

theorem get_nil (w : World) (id : Int) : Calls Try.prog 26 #[.pointer none, .int .i64 id] w (RetGet 0 0 0 0 0 [] false w) :=
  get_of w _ id 0 0 0 0 0 (.slice none 0 0) [] false (Rd.empty _ _) (by decide) fun W _ => find_nil W id

end Go.Proofs.Ytifcgkpannlnnaa
