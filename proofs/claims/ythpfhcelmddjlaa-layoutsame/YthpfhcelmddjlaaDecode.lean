/- Contract: Decode: any bytes. -/
import Derived.Test.YthpfhcelmddjlaaGetLay
namespace Go.Proofs.Ythpfhcelmddjlaa
open Go.RowKit Fl
set_option maxRecDepth 100000

def L0 : Lay := ⟨[], [], [], [], [], 0, 0, 0, 0, 0⟩
def body (o : List Nat) : St := some (upto o o.length)
def fin (r : Lay × St) : Lay × Int :=
  match r.2 with
  | none => (L0, 4)
  | some l => if 0 < l.length then (L0, 2) else (r.1, 0)
/-- What any bytes are: the layout, and the error's number. -/
def dec (q : List Nat) : Lay × Int :=
  if q.length < 2 then (L0, 4) else
  if sumOf (q.take (q.length - 2)) ≠ tailNum q then (L0, 3) else
  if okBL (body (q.take (q.length - 2))) = false then (L0, 2) else
  fin (tlay (tget 8 (tget 8 (body (q.take (q.length - 2)))).2).2)

def RetDec (r : Lay × Int) (w : World) (e : Ending) (w' : World) : Prop := ∃ v, e = .returned (.tuple #[v, .int .i64 r.2]) ∧ LayV w' w'.heap.size v r.1 ∧ Below w.heap.size w w'

theorem lay0 (w : World) (D : Nat) : LayV w D (.agg #[.slice none 0 0, .slice none 0 0, .slice none 0 0, .slice none 0 0, .slice none 0 0, .int .i64 0, .int .i64 0, .int .i64 0, .int .i64 0, .int .i64 0]) L0 :=
  ⟨_, _, _, _, _, [], rfl, ⟨Rd.empty _ _, ⟨rfl, fun i h1 _ => absurd h1 (by simp)⟩, ⟨_, 0, rfl, fun h => absurd h (by simp [L0])⟩, ⟨[], Rd.empty _ _, rfl, fun i h1 _ => absurd h1 (by simp)⟩, ⟨_, 0, rfl, fun h => absurd h (by simp [L0])⟩, ⟨[], Rd.empty _ _, rfl, fun i h1 _ => absurd h1 (by simp)⟩⟩⟩

theorem results_cell_tmp_row {P : Program} {fn : Func} {p u : Tmp} {ty : TypeId} (h : fn.results = #[.cell p ty, .tmp u]) (tmps : Array Value) (w : World) (g : Nat) (t : TypeId) (cs : Array Value) (fr : Nat × Nat) (d : TypeDesc)
    (hp : tmps.getD p undef = .pointer (some ⟨g, 0, none⟩)) (hg : w.heap[g]? = some (.cells cs t fr))
    (hu : P.underlying ty = some d) (hd : (match d with | .struct _ | .array _ _ => true | _ => false) = true) (hi : (P.info? ty).map (·.size) = some cs.size) :
    (results fn tmps).run P w = .ok (.tuple #[.agg cs, tmps.getD u undef]) w := by
  rw [results_cell_tmp h, hp]
  simp [asAddr, run_loadVar_row w g t ty cs fr d hg hu hd hi, Result.andThen]

theorem ok_any (w : World) (B g : Nat) (s : St) (h : RS w B g s) : Calls Try.prog 37 #[.pointer (some ⟨g, 0, none⟩)] w fun e w' => e = .returned (.bool s.isSome) ∧ w = w' := by
  cases s with
  | none => exact ok_some w B g [] 0 true h
  | some l => obtain ⟨q, rd, hr, _⟩ := h; exact ok_some w B g q rd false hr

theorem left_any (w : World) (B g : Nat) (l : List Bool) (h : RS w B g (some l)) : Calls Try.prog 38 #[.pointer (some ⟨g, 0, none⟩)] w fun e w' => e = .returned (.int .i64 (l.length : Int)) ∧ ∃ n, w' = w.drewN n := by
  obtain ⟨q, rd, hr, h1, h2, h3, rfl⟩ := h
  rw [List.length_drop, upto_length]
  exact left_some w B g q rd false hr (by omega) h1

theorem RS.of_reader {w : World} {B g : Nat} {q : List Nat} (h : Rr w B g q 0 false) (hl : q.length ≤ 4000) (hq : ∀ x ∈ q, x < 256) : RS w B g (body q) := ⟨q, 0, h, by omega, hl, hq, by simp⟩


set_option maxHeartbeats 4000000 in
theorem decode_short (w : World) (v : Value) (q : List Nat) (h : Rd w w.heap.size v (bvals q)) (hq : ∀ x ∈ q, x < 256) (_ : q.length ≤ 4000) (h2 : q.length < 2) : Calls Try.prog 13 #[v] w (RetDec (L0, 4) w) := by
  have HB0 := Lib.hid ((Below.refl w.heap.size w).alloc (Nat.le_refl _) (.cells #[.slice none 0 0, .slice none 0 0, .slice none 0 0, .slice none 0 0, .slice none 0 0, .int .i64 0, .int .i64 0, .int .i64 0, .int .i64 0, .int .i64 0] 33))
  have HZ := Lib.hid (Row.new w 33 #[.slice none 0 0, .slice none 0 0, .slice none 0 0, .slice none 0 0, .slice none 0 0, .int .i64 0, .int .i64 0, .int .i64 0, .int .i64 0, .int .i64 0])
  have HV : Hid (Rd (w.alloc (.cells #[.slice none 0 0, .slice none 0 0, .slice none 0 0, .slice none 0 0, .slice none 0 0, .int .i64 0, .int .i64 0, .int .i64 0, .int .i64 0, .int .i64 0] 33)) (w.alloc (.cells #[.slice none 0 0, .slice none 0 0, .slice none 0 0, .slice none 0 0, .slice none 0 0, .int .i64 0, .int .i64 0, .int .i64 0, .int .i64 0, .int .i64 0] 33)).heap.size v (bvals q)) := h.up HB0.out
  have HQ := Lib.hid hq
  clear h hq
  go_enter Try.func13, Try.ntmps13
  go_upto_region 1 with (fail)
  obtain ⟨n0, hn0⟩ : ∃ n, n = w.heap.size := ⟨_, rfl⟩
  rw [← hn0] at HZ HB0 ⊢
  have HN0 := Lib.hid hn0; clear hn0
  generalize w.alloc (.cells #[.slice none 0 0, .slice none 0 0, .slice none 0 0, .slice none 0 0, .slice none 0 0, .int .i64 0, .int .i64 0, .int .i64 0, .int .i64 0, .int .i64 0] 33) = W0 at *
  have HH := Lib.hid h2; clear h2
  go_wp2_with fail
  refine (open_short W0 _ v q HV.out HH.out).mono ?_
  rintro e W1 ⟨rfl, rfl⟩
  have hz := HZ.out
  have q0 := hz.cell 0; have r0 := hz.frozen 0
  have q1 := hz.cell 1; have r1 := hz.frozen 1
  have q2 := hz.cell 2; have r2 := hz.frozen 2
  have q3 := hz.cell 3; have r3 := hz.frozen 3
  have q4 := hz.cell 4; have r4 := hz.frozen 4
  have q5 := hz.cell 5; have r5 := hz.frozen 5
  have q6 := hz.cell 6; have r6 := hz.frozen 6
  have q7 := hz.cell 7; have r7 := hz.frozen 7
  have q8 := hz.cell 8; have r8 := hz.frozen 8
  have q9 := hz.cell 9; have r9 := hz.frozen 9
  simp only [List.getElem?_toArray, List.getElem?_cons_zero, List.getElem?_cons_succ] at q0 q1 q2 q3 q4 q5 q6 q7 q8 q9
  go_wp2_with fail
  have rr0 : Row (W0.setCell ⟨n0, 0, none⟩ (.slice none 0 0)) n0 33 #[.slice none 0 0, .slice none 0 0, .slice none 0 0, .slice none 0 0, .slice none 0 0, .int .i64 0, .int .i64 0, .int .i64 0, .int .i64 0, .int .i64 0] := hz.set 0 (.slice none 0 0)
  have kk0 : Below n0 W0 (W0.setCell ⟨n0, 0, none⟩ (.slice none 0 0)) := (Below.refl n0 W0).setCell (p := ⟨n0, 0, none⟩) (Nat.le_refl _) (.slice none 0 0)
  have rr1 : Row ((W0.setCell ⟨n0, 0, none⟩ (.slice none 0 0)).setCell ⟨n0, 1, none⟩ (.slice none 0 0)) n0 33 #[.slice none 0 0, .slice none 0 0, .slice none 0 0, .slice none 0 0, .slice none 0 0, .int .i64 0, .int .i64 0, .int .i64 0, .int .i64 0, .int .i64 0] := rr0.set 1 (.slice none 0 0)
  have kk1 : Below n0 W0 ((W0.setCell ⟨n0, 0, none⟩ (.slice none 0 0)).setCell ⟨n0, 1, none⟩ (.slice none 0 0)) := kk0.setCell (p := ⟨n0, 1, none⟩) (Nat.le_refl _) (.slice none 0 0)
  have rr2 : Row (((W0.setCell ⟨n0, 0, none⟩ (.slice none 0 0)).setCell ⟨n0, 1, none⟩ (.slice none 0 0)).setCell ⟨n0, 2, none⟩ (.slice none 0 0)) n0 33 #[.slice none 0 0, .slice none 0 0, .slice none 0 0, .slice none 0 0, .slice none 0 0, .int .i64 0, .int .i64 0, .int .i64 0, .int .i64 0, .int .i64 0] := rr1.set 2 (.slice none 0 0)
  have kk2 : Below n0 W0 (((W0.setCell ⟨n0, 0, none⟩ (.slice none 0 0)).setCell ⟨n0, 1, none⟩ (.slice none 0 0)).setCell ⟨n0, 2, none⟩ (.slice none 0 0)) := kk1.setCell (p := ⟨n0, 2, none⟩) (Nat.le_refl _) (.slice none 0 0)
  have rr3 : Row ((((W0.setCell ⟨n0, 0, none⟩ (.slice none 0 0)).setCell ⟨n0, 1, none⟩ (.slice none 0 0)).setCell ⟨n0, 2, none⟩ (.slice none 0 0)).setCell ⟨n0, 3, none⟩ (.slice none 0 0)) n0 33 #[.slice none 0 0, .slice none 0 0, .slice none 0 0, .slice none 0 0, .slice none 0 0, .int .i64 0, .int .i64 0, .int .i64 0, .int .i64 0, .int .i64 0] := rr2.set 3 (.slice none 0 0)
  have kk3 : Below n0 W0 ((((W0.setCell ⟨n0, 0, none⟩ (.slice none 0 0)).setCell ⟨n0, 1, none⟩ (.slice none 0 0)).setCell ⟨n0, 2, none⟩ (.slice none 0 0)).setCell ⟨n0, 3, none⟩ (.slice none 0 0)) := kk2.setCell (p := ⟨n0, 3, none⟩) (Nat.le_refl _) (.slice none 0 0)
  have rr4 : Row (((((W0.setCell ⟨n0, 0, none⟩ (.slice none 0 0)).setCell ⟨n0, 1, none⟩ (.slice none 0 0)).setCell ⟨n0, 2, none⟩ (.slice none 0 0)).setCell ⟨n0, 3, none⟩ (.slice none 0 0)).setCell ⟨n0, 4, none⟩ (.slice none 0 0)) n0 33 #[.slice none 0 0, .slice none 0 0, .slice none 0 0, .slice none 0 0, .slice none 0 0, .int .i64 0, .int .i64 0, .int .i64 0, .int .i64 0, .int .i64 0] := rr3.set 4 (.slice none 0 0)
  have kk4 : Below n0 W0 (((((W0.setCell ⟨n0, 0, none⟩ (.slice none 0 0)).setCell ⟨n0, 1, none⟩ (.slice none 0 0)).setCell ⟨n0, 2, none⟩ (.slice none 0 0)).setCell ⟨n0, 3, none⟩ (.slice none 0 0)).setCell ⟨n0, 4, none⟩ (.slice none 0 0)) := kk3.setCell (p := ⟨n0, 4, none⟩) (Nat.le_refl _) (.slice none 0 0)
  have rr5 : Row ((((((W0.setCell ⟨n0, 0, none⟩ (.slice none 0 0)).setCell ⟨n0, 1, none⟩ (.slice none 0 0)).setCell ⟨n0, 2, none⟩ (.slice none 0 0)).setCell ⟨n0, 3, none⟩ (.slice none 0 0)).setCell ⟨n0, 4, none⟩ (.slice none 0 0)).setCell ⟨n0, 5, none⟩ (.int .i64 0)) n0 33 #[.slice none 0 0, .slice none 0 0, .slice none 0 0, .slice none 0 0, .slice none 0 0, .int .i64 0, .int .i64 0, .int .i64 0, .int .i64 0, .int .i64 0] := rr4.set 5 (.int .i64 0)
  have kk5 : Below n0 W0 ((((((W0.setCell ⟨n0, 0, none⟩ (.slice none 0 0)).setCell ⟨n0, 1, none⟩ (.slice none 0 0)).setCell ⟨n0, 2, none⟩ (.slice none 0 0)).setCell ⟨n0, 3, none⟩ (.slice none 0 0)).setCell ⟨n0, 4, none⟩ (.slice none 0 0)).setCell ⟨n0, 5, none⟩ (.int .i64 0)) := kk4.setCell (p := ⟨n0, 5, none⟩) (Nat.le_refl _) (.int .i64 0)
  have rr6 : Row (((((((W0.setCell ⟨n0, 0, none⟩ (.slice none 0 0)).setCell ⟨n0, 1, none⟩ (.slice none 0 0)).setCell ⟨n0, 2, none⟩ (.slice none 0 0)).setCell ⟨n0, 3, none⟩ (.slice none 0 0)).setCell ⟨n0, 4, none⟩ (.slice none 0 0)).setCell ⟨n0, 5, none⟩ (.int .i64 0)).setCell ⟨n0, 6, none⟩ (.int .i64 0)) n0 33 #[.slice none 0 0, .slice none 0 0, .slice none 0 0, .slice none 0 0, .slice none 0 0, .int .i64 0, .int .i64 0, .int .i64 0, .int .i64 0, .int .i64 0] := rr5.set 6 (.int .i64 0)
  have kk6 : Below n0 W0 (((((((W0.setCell ⟨n0, 0, none⟩ (.slice none 0 0)).setCell ⟨n0, 1, none⟩ (.slice none 0 0)).setCell ⟨n0, 2, none⟩ (.slice none 0 0)).setCell ⟨n0, 3, none⟩ (.slice none 0 0)).setCell ⟨n0, 4, none⟩ (.slice none 0 0)).setCell ⟨n0, 5, none⟩ (.int .i64 0)).setCell ⟨n0, 6, none⟩ (.int .i64 0)) := kk5.setCell (p := ⟨n0, 6, none⟩) (Nat.le_refl _) (.int .i64 0)
  have rr7 : Row ((((((((W0.setCell ⟨n0, 0, none⟩ (.slice none 0 0)).setCell ⟨n0, 1, none⟩ (.slice none 0 0)).setCell ⟨n0, 2, none⟩ (.slice none 0 0)).setCell ⟨n0, 3, none⟩ (.slice none 0 0)).setCell ⟨n0, 4, none⟩ (.slice none 0 0)).setCell ⟨n0, 5, none⟩ (.int .i64 0)).setCell ⟨n0, 6, none⟩ (.int .i64 0)).setCell ⟨n0, 7, none⟩ (.int .i64 0)) n0 33 #[.slice none 0 0, .slice none 0 0, .slice none 0 0, .slice none 0 0, .slice none 0 0, .int .i64 0, .int .i64 0, .int .i64 0, .int .i64 0, .int .i64 0] := rr6.set 7 (.int .i64 0)
  have kk7 : Below n0 W0 ((((((((W0.setCell ⟨n0, 0, none⟩ (.slice none 0 0)).setCell ⟨n0, 1, none⟩ (.slice none 0 0)).setCell ⟨n0, 2, none⟩ (.slice none 0 0)).setCell ⟨n0, 3, none⟩ (.slice none 0 0)).setCell ⟨n0, 4, none⟩ (.slice none 0 0)).setCell ⟨n0, 5, none⟩ (.int .i64 0)).setCell ⟨n0, 6, none⟩ (.int .i64 0)).setCell ⟨n0, 7, none⟩ (.int .i64 0)) := kk6.setCell (p := ⟨n0, 7, none⟩) (Nat.le_refl _) (.int .i64 0)
  have rr8 : Row (((((((((W0.setCell ⟨n0, 0, none⟩ (.slice none 0 0)).setCell ⟨n0, 1, none⟩ (.slice none 0 0)).setCell ⟨n0, 2, none⟩ (.slice none 0 0)).setCell ⟨n0, 3, none⟩ (.slice none 0 0)).setCell ⟨n0, 4, none⟩ (.slice none 0 0)).setCell ⟨n0, 5, none⟩ (.int .i64 0)).setCell ⟨n0, 6, none⟩ (.int .i64 0)).setCell ⟨n0, 7, none⟩ (.int .i64 0)).setCell ⟨n0, 8, none⟩ (.int .i64 0)) n0 33 #[.slice none 0 0, .slice none 0 0, .slice none 0 0, .slice none 0 0, .slice none 0 0, .int .i64 0, .int .i64 0, .int .i64 0, .int .i64 0, .int .i64 0] := rr7.set 8 (.int .i64 0)
  have kk8 : Below n0 W0 (((((((((W0.setCell ⟨n0, 0, none⟩ (.slice none 0 0)).setCell ⟨n0, 1, none⟩ (.slice none 0 0)).setCell ⟨n0, 2, none⟩ (.slice none 0 0)).setCell ⟨n0, 3, none⟩ (.slice none 0 0)).setCell ⟨n0, 4, none⟩ (.slice none 0 0)).setCell ⟨n0, 5, none⟩ (.int .i64 0)).setCell ⟨n0, 6, none⟩ (.int .i64 0)).setCell ⟨n0, 7, none⟩ (.int .i64 0)).setCell ⟨n0, 8, none⟩ (.int .i64 0)) := kk7.setCell (p := ⟨n0, 8, none⟩) (Nat.le_refl _) (.int .i64 0)
  have rr9 : Row ((((((((((W0.setCell ⟨n0, 0, none⟩ (.slice none 0 0)).setCell ⟨n0, 1, none⟩ (.slice none 0 0)).setCell ⟨n0, 2, none⟩ (.slice none 0 0)).setCell ⟨n0, 3, none⟩ (.slice none 0 0)).setCell ⟨n0, 4, none⟩ (.slice none 0 0)).setCell ⟨n0, 5, none⟩ (.int .i64 0)).setCell ⟨n0, 6, none⟩ (.int .i64 0)).setCell ⟨n0, 7, none⟩ (.int .i64 0)).setCell ⟨n0, 8, none⟩ (.int .i64 0)).setCell ⟨n0, 9, none⟩ (.int .i64 0)) n0 33 #[.slice none 0 0, .slice none 0 0, .slice none 0 0, .slice none 0 0, .slice none 0 0, .int .i64 0, .int .i64 0, .int .i64 0, .int .i64 0, .int .i64 0] := rr8.set 9 (.int .i64 0)
  have kk9 : Below n0 W0 ((((((((((W0.setCell ⟨n0, 0, none⟩ (.slice none 0 0)).setCell ⟨n0, 1, none⟩ (.slice none 0 0)).setCell ⟨n0, 2, none⟩ (.slice none 0 0)).setCell ⟨n0, 3, none⟩ (.slice none 0 0)).setCell ⟨n0, 4, none⟩ (.slice none 0 0)).setCell ⟨n0, 5, none⟩ (.int .i64 0)).setCell ⟨n0, 6, none⟩ (.int .i64 0)).setCell ⟨n0, 7, none⟩ (.int .i64 0)).setCell ⟨n0, 8, none⟩ (.int .i64 0)).setCell ⟨n0, 9, none⟩ (.int .i64 0)) := kk8.setCell (p := ⟨n0, 9, none⟩) (Nat.le_refl _) (.int .i64 0)
  refine bodyPost_ret (results_cell_tmp_row rfl _ _ n0 33 #[.slice none 0 0, .slice none 0 0, .slice none 0 0, .slice none 0 0, .slice none 0 0, .int .i64 0, .int .i64 0, .int .i64 0, .int .i64 0, .int .i64 0] (0, 0) _ rfl rr9 Try.underlying33 rfl Try.size33) rfl ?_
  exact ⟨_, rfl, lay0 _ _, by rw [← HN0.out]; exact HB0.out.trans kk9⟩

set_option maxHeartbeats 4000000 in
theorem decode_bad (w : World) (v : Value) (q : List Nat) (h : Rd w w.heap.size v (bvals q)) (hq : ∀ x ∈ q, x < 256) (hl : q.length ≤ 4000) (h2 : 2 ≤ q.length) (hne : sumOf (q.take (q.length - 2)) ≠ tailNum q) : Calls Try.prog 13 #[v] w (RetDec (L0, 3) w) := by
  have HB0 := Lib.hid ((Below.refl w.heap.size w).alloc (Nat.le_refl _) (.cells #[.slice none 0 0, .slice none 0 0, .slice none 0 0, .slice none 0 0, .slice none 0 0, .int .i64 0, .int .i64 0, .int .i64 0, .int .i64 0, .int .i64 0] 33))
  have HZ := Lib.hid (Row.new w 33 #[.slice none 0 0, .slice none 0 0, .slice none 0 0, .slice none 0 0, .slice none 0 0, .int .i64 0, .int .i64 0, .int .i64 0, .int .i64 0, .int .i64 0])
  have HV : Hid (Rd (w.alloc (.cells #[.slice none 0 0, .slice none 0 0, .slice none 0 0, .slice none 0 0, .slice none 0 0, .int .i64 0, .int .i64 0, .int .i64 0, .int .i64 0, .int .i64 0] 33)) (w.alloc (.cells #[.slice none 0 0, .slice none 0 0, .slice none 0 0, .slice none 0 0, .slice none 0 0, .int .i64 0, .int .i64 0, .int .i64 0, .int .i64 0, .int .i64 0] 33)).heap.size v (bvals q)) := h.up HB0.out
  have HQ := Lib.hid hq
  clear h hq
  go_enter Try.func13, Try.ntmps13
  go_upto_region 1 with (fail)
  obtain ⟨n0, hn0⟩ : ∃ n, n = w.heap.size := ⟨_, rfl⟩
  rw [← hn0] at HZ HB0 ⊢
  have HN0 := Lib.hid hn0; clear hn0
  generalize w.alloc (.cells #[.slice none 0 0, .slice none 0 0, .slice none 0 0, .slice none 0 0, .slice none 0 0, .int .i64 0, .int .i64 0, .int .i64 0, .int .i64 0, .int .i64 0] 33) = W0 at *
  have HH := Lib.hid hne; clear hne
  go_wp2_with fail
  refine (open_bad W0 _ v q HV.out HQ.out (by omega) h2 HH.out).mono ?_
  rintro e W1 ⟨rfl, m, hW1⟩
  have hz : Row W1 n0 33 #[.slice none 0 0, .slice none 0 0, .slice none 0 0, .slice none 0 0, .slice none 0 0, .int .i64 0, .int .i64 0, .int .i64 0, .int .i64 0, .int .i64 0] := by rw [hW1]; exact HZ.out
  have HB1 : Hid (Below n0 w W1) := by rw [hW1]; exact below_drewN HB0.out m
  clear hW1
  have q0 := hz.cell 0; have r0 := hz.frozen 0
  have q1 := hz.cell 1; have r1 := hz.frozen 1
  have q2 := hz.cell 2; have r2 := hz.frozen 2
  have q3 := hz.cell 3; have r3 := hz.frozen 3
  have q4 := hz.cell 4; have r4 := hz.frozen 4
  have q5 := hz.cell 5; have r5 := hz.frozen 5
  have q6 := hz.cell 6; have r6 := hz.frozen 6
  have q7 := hz.cell 7; have r7 := hz.frozen 7
  have q8 := hz.cell 8; have r8 := hz.frozen 8
  have q9 := hz.cell 9; have r9 := hz.frozen 9
  simp only [List.getElem?_toArray, List.getElem?_cons_zero, List.getElem?_cons_succ] at q0 q1 q2 q3 q4 q5 q6 q7 q8 q9
  go_wp2_with fail
  have rr0 : Row (W1.setCell ⟨n0, 0, none⟩ (.slice none 0 0)) n0 33 #[.slice none 0 0, .slice none 0 0, .slice none 0 0, .slice none 0 0, .slice none 0 0, .int .i64 0, .int .i64 0, .int .i64 0, .int .i64 0, .int .i64 0] := hz.set 0 (.slice none 0 0)
  have kk0 : Below n0 W1 (W1.setCell ⟨n0, 0, none⟩ (.slice none 0 0)) := (Below.refl n0 W1).setCell (p := ⟨n0, 0, none⟩) (Nat.le_refl _) (.slice none 0 0)
  have rr1 : Row ((W1.setCell ⟨n0, 0, none⟩ (.slice none 0 0)).setCell ⟨n0, 1, none⟩ (.slice none 0 0)) n0 33 #[.slice none 0 0, .slice none 0 0, .slice none 0 0, .slice none 0 0, .slice none 0 0, .int .i64 0, .int .i64 0, .int .i64 0, .int .i64 0, .int .i64 0] := rr0.set 1 (.slice none 0 0)
  have kk1 : Below n0 W1 ((W1.setCell ⟨n0, 0, none⟩ (.slice none 0 0)).setCell ⟨n0, 1, none⟩ (.slice none 0 0)) := kk0.setCell (p := ⟨n0, 1, none⟩) (Nat.le_refl _) (.slice none 0 0)
  have rr2 : Row (((W1.setCell ⟨n0, 0, none⟩ (.slice none 0 0)).setCell ⟨n0, 1, none⟩ (.slice none 0 0)).setCell ⟨n0, 2, none⟩ (.slice none 0 0)) n0 33 #[.slice none 0 0, .slice none 0 0, .slice none 0 0, .slice none 0 0, .slice none 0 0, .int .i64 0, .int .i64 0, .int .i64 0, .int .i64 0, .int .i64 0] := rr1.set 2 (.slice none 0 0)
  have kk2 : Below n0 W1 (((W1.setCell ⟨n0, 0, none⟩ (.slice none 0 0)).setCell ⟨n0, 1, none⟩ (.slice none 0 0)).setCell ⟨n0, 2, none⟩ (.slice none 0 0)) := kk1.setCell (p := ⟨n0, 2, none⟩) (Nat.le_refl _) (.slice none 0 0)
  have rr3 : Row ((((W1.setCell ⟨n0, 0, none⟩ (.slice none 0 0)).setCell ⟨n0, 1, none⟩ (.slice none 0 0)).setCell ⟨n0, 2, none⟩ (.slice none 0 0)).setCell ⟨n0, 3, none⟩ (.slice none 0 0)) n0 33 #[.slice none 0 0, .slice none 0 0, .slice none 0 0, .slice none 0 0, .slice none 0 0, .int .i64 0, .int .i64 0, .int .i64 0, .int .i64 0, .int .i64 0] := rr2.set 3 (.slice none 0 0)
  have kk3 : Below n0 W1 ((((W1.setCell ⟨n0, 0, none⟩ (.slice none 0 0)).setCell ⟨n0, 1, none⟩ (.slice none 0 0)).setCell ⟨n0, 2, none⟩ (.slice none 0 0)).setCell ⟨n0, 3, none⟩ (.slice none 0 0)) := kk2.setCell (p := ⟨n0, 3, none⟩) (Nat.le_refl _) (.slice none 0 0)
  have rr4 : Row (((((W1.setCell ⟨n0, 0, none⟩ (.slice none 0 0)).setCell ⟨n0, 1, none⟩ (.slice none 0 0)).setCell ⟨n0, 2, none⟩ (.slice none 0 0)).setCell ⟨n0, 3, none⟩ (.slice none 0 0)).setCell ⟨n0, 4, none⟩ (.slice none 0 0)) n0 33 #[.slice none 0 0, .slice none 0 0, .slice none 0 0, .slice none 0 0, .slice none 0 0, .int .i64 0, .int .i64 0, .int .i64 0, .int .i64 0, .int .i64 0] := rr3.set 4 (.slice none 0 0)
  have kk4 : Below n0 W1 (((((W1.setCell ⟨n0, 0, none⟩ (.slice none 0 0)).setCell ⟨n0, 1, none⟩ (.slice none 0 0)).setCell ⟨n0, 2, none⟩ (.slice none 0 0)).setCell ⟨n0, 3, none⟩ (.slice none 0 0)).setCell ⟨n0, 4, none⟩ (.slice none 0 0)) := kk3.setCell (p := ⟨n0, 4, none⟩) (Nat.le_refl _) (.slice none 0 0)
  have rr5 : Row ((((((W1.setCell ⟨n0, 0, none⟩ (.slice none 0 0)).setCell ⟨n0, 1, none⟩ (.slice none 0 0)).setCell ⟨n0, 2, none⟩ (.slice none 0 0)).setCell ⟨n0, 3, none⟩ (.slice none 0 0)).setCell ⟨n0, 4, none⟩ (.slice none 0 0)).setCell ⟨n0, 5, none⟩ (.int .i64 0)) n0 33 #[.slice none 0 0, .slice none 0 0, .slice none 0 0, .slice none 0 0, .slice none 0 0, .int .i64 0, .int .i64 0, .int .i64 0, .int .i64 0, .int .i64 0] := rr4.set 5 (.int .i64 0)
  have kk5 : Below n0 W1 ((((((W1.setCell ⟨n0, 0, none⟩ (.slice none 0 0)).setCell ⟨n0, 1, none⟩ (.slice none 0 0)).setCell ⟨n0, 2, none⟩ (.slice none 0 0)).setCell ⟨n0, 3, none⟩ (.slice none 0 0)).setCell ⟨n0, 4, none⟩ (.slice none 0 0)).setCell ⟨n0, 5, none⟩ (.int .i64 0)) := kk4.setCell (p := ⟨n0, 5, none⟩) (Nat.le_refl _) (.int .i64 0)
  have rr6 : Row (((((((W1.setCell ⟨n0, 0, none⟩ (.slice none 0 0)).setCell ⟨n0, 1, none⟩ (.slice none 0 0)).setCell ⟨n0, 2, none⟩ (.slice none 0 0)).setCell ⟨n0, 3, none⟩ (.slice none 0 0)).setCell ⟨n0, 4, none⟩ (.slice none 0 0)).setCell ⟨n0, 5, none⟩ (.int .i64 0)).setCell ⟨n0, 6, none⟩ (.int .i64 0)) n0 33 #[.slice none 0 0, .slice none 0 0, .slice none 0 0, .slice none 0 0, .slice none 0 0, .int .i64 0, .int .i64 0, .int .i64 0, .int .i64 0, .int .i64 0] := rr5.set 6 (.int .i64 0)
  have kk6 : Below n0 W1 (((((((W1.setCell ⟨n0, 0, none⟩ (.slice none 0 0)).setCell ⟨n0, 1, none⟩ (.slice none 0 0)).setCell ⟨n0, 2, none⟩ (.slice none 0 0)).setCell ⟨n0, 3, none⟩ (.slice none 0 0)).setCell ⟨n0, 4, none⟩ (.slice none 0 0)).setCell ⟨n0, 5, none⟩ (.int .i64 0)).setCell ⟨n0, 6, none⟩ (.int .i64 0)) := kk5.setCell (p := ⟨n0, 6, none⟩) (Nat.le_refl _) (.int .i64 0)
  have rr7 : Row ((((((((W1.setCell ⟨n0, 0, none⟩ (.slice none 0 0)).setCell ⟨n0, 1, none⟩ (.slice none 0 0)).setCell ⟨n0, 2, none⟩ (.slice none 0 0)).setCell ⟨n0, 3, none⟩ (.slice none 0 0)).setCell ⟨n0, 4, none⟩ (.slice none 0 0)).setCell ⟨n0, 5, none⟩ (.int .i64 0)).setCell ⟨n0, 6, none⟩ (.int .i64 0)).setCell ⟨n0, 7, none⟩ (.int .i64 0)) n0 33 #[.slice none 0 0, .slice none 0 0, .slice none 0 0, .slice none 0 0, .slice none 0 0, .int .i64 0, .int .i64 0, .int .i64 0, .int .i64 0, .int .i64 0] := rr6.set 7 (.int .i64 0)
  have kk7 : Below n0 W1 ((((((((W1.setCell ⟨n0, 0, none⟩ (.slice none 0 0)).setCell ⟨n0, 1, none⟩ (.slice none 0 0)).setCell ⟨n0, 2, none⟩ (.slice none 0 0)).setCell ⟨n0, 3, none⟩ (.slice none 0 0)).setCell ⟨n0, 4, none⟩ (.slice none 0 0)).setCell ⟨n0, 5, none⟩ (.int .i64 0)).setCell ⟨n0, 6, none⟩ (.int .i64 0)).setCell ⟨n0, 7, none⟩ (.int .i64 0)) := kk6.setCell (p := ⟨n0, 7, none⟩) (Nat.le_refl _) (.int .i64 0)
  have rr8 : Row (((((((((W1.setCell ⟨n0, 0, none⟩ (.slice none 0 0)).setCell ⟨n0, 1, none⟩ (.slice none 0 0)).setCell ⟨n0, 2, none⟩ (.slice none 0 0)).setCell ⟨n0, 3, none⟩ (.slice none 0 0)).setCell ⟨n0, 4, none⟩ (.slice none 0 0)).setCell ⟨n0, 5, none⟩ (.int .i64 0)).setCell ⟨n0, 6, none⟩ (.int .i64 0)).setCell ⟨n0, 7, none⟩ (.int .i64 0)).setCell ⟨n0, 8, none⟩ (.int .i64 0)) n0 33 #[.slice none 0 0, .slice none 0 0, .slice none 0 0, .slice none 0 0, .slice none 0 0, .int .i64 0, .int .i64 0, .int .i64 0, .int .i64 0, .int .i64 0] := rr7.set 8 (.int .i64 0)
  have kk8 : Below n0 W1 (((((((((W1.setCell ⟨n0, 0, none⟩ (.slice none 0 0)).setCell ⟨n0, 1, none⟩ (.slice none 0 0)).setCell ⟨n0, 2, none⟩ (.slice none 0 0)).setCell ⟨n0, 3, none⟩ (.slice none 0 0)).setCell ⟨n0, 4, none⟩ (.slice none 0 0)).setCell ⟨n0, 5, none⟩ (.int .i64 0)).setCell ⟨n0, 6, none⟩ (.int .i64 0)).setCell ⟨n0, 7, none⟩ (.int .i64 0)).setCell ⟨n0, 8, none⟩ (.int .i64 0)) := kk7.setCell (p := ⟨n0, 8, none⟩) (Nat.le_refl _) (.int .i64 0)
  have rr9 : Row ((((((((((W1.setCell ⟨n0, 0, none⟩ (.slice none 0 0)).setCell ⟨n0, 1, none⟩ (.slice none 0 0)).setCell ⟨n0, 2, none⟩ (.slice none 0 0)).setCell ⟨n0, 3, none⟩ (.slice none 0 0)).setCell ⟨n0, 4, none⟩ (.slice none 0 0)).setCell ⟨n0, 5, none⟩ (.int .i64 0)).setCell ⟨n0, 6, none⟩ (.int .i64 0)).setCell ⟨n0, 7, none⟩ (.int .i64 0)).setCell ⟨n0, 8, none⟩ (.int .i64 0)).setCell ⟨n0, 9, none⟩ (.int .i64 0)) n0 33 #[.slice none 0 0, .slice none 0 0, .slice none 0 0, .slice none 0 0, .slice none 0 0, .int .i64 0, .int .i64 0, .int .i64 0, .int .i64 0, .int .i64 0] := rr8.set 9 (.int .i64 0)
  have kk9 : Below n0 W1 ((((((((((W1.setCell ⟨n0, 0, none⟩ (.slice none 0 0)).setCell ⟨n0, 1, none⟩ (.slice none 0 0)).setCell ⟨n0, 2, none⟩ (.slice none 0 0)).setCell ⟨n0, 3, none⟩ (.slice none 0 0)).setCell ⟨n0, 4, none⟩ (.slice none 0 0)).setCell ⟨n0, 5, none⟩ (.int .i64 0)).setCell ⟨n0, 6, none⟩ (.int .i64 0)).setCell ⟨n0, 7, none⟩ (.int .i64 0)).setCell ⟨n0, 8, none⟩ (.int .i64 0)).setCell ⟨n0, 9, none⟩ (.int .i64 0)) := kk8.setCell (p := ⟨n0, 9, none⟩) (Nat.le_refl _) (.int .i64 0)
  refine bodyPost_ret (results_cell_tmp_row rfl _ _ n0 33 #[.slice none 0 0, .slice none 0 0, .slice none 0 0, .slice none 0 0, .slice none 0 0, .int .i64 0, .int .i64 0, .int .i64 0, .int .i64 0, .int .i64 0] (0, 0) _ rfl rr9 Try.underlying33 rfl Try.size33) rfl ?_
  exact ⟨_, rfl, lay0 _ _, by rw [← HN0.out]; exact HB1.out.trans kk9⟩

set_option maxHeartbeats 4000000 in
theorem decode_form (w : World) (v : Value) (q : List Nat) (h : Rd w w.heap.size v (bvals q)) (hq : ∀ x ∈ q, x < 256) (hl : q.length ≤ 4000) (h2 : 2 ≤ q.length) (heq : sumOf (q.take (q.length - 2)) = tailNum q) (hbl : okBL (body (q.take (q.length - 2))) = false) : Calls Try.prog 13 #[v] w (RetDec (L0, 2) w) := by
  have HB0 := Lib.hid ((Below.refl w.heap.size w).alloc (Nat.le_refl _) (.cells #[.slice none 0 0, .slice none 0 0, .slice none 0 0, .slice none 0 0, .slice none 0 0, .int .i64 0, .int .i64 0, .int .i64 0, .int .i64 0, .int .i64 0] 33))
  have HZ := Lib.hid (Row.new w 33 #[.slice none 0 0, .slice none 0 0, .slice none 0 0, .slice none 0 0, .slice none 0 0, .int .i64 0, .int .i64 0, .int .i64 0, .int .i64 0, .int .i64 0])
  have HV : Hid (Rd (w.alloc (.cells #[.slice none 0 0, .slice none 0 0, .slice none 0 0, .slice none 0 0, .slice none 0 0, .int .i64 0, .int .i64 0, .int .i64 0, .int .i64 0, .int .i64 0] 33)) (w.alloc (.cells #[.slice none 0 0, .slice none 0 0, .slice none 0 0, .slice none 0 0, .slice none 0 0, .int .i64 0, .int .i64 0, .int .i64 0, .int .i64 0, .int .i64 0] 33)).heap.size v (bvals q)) := h.up HB0.out
  have HQ := Lib.hid hq
  clear h hq
  go_enter Try.func13, Try.ntmps13
  go_upto_region 1 with (fail)
  obtain ⟨n0, hn0⟩ : ∃ n, n = w.heap.size := ⟨_, rfl⟩
  rw [← hn0] at HZ HB0 ⊢
  have HN0 := Lib.hid hn0; clear hn0
  generalize w.alloc (.cells #[.slice none 0 0, .slice none 0 0, .slice none 0 0, .slice none 0 0, .slice none 0 0, .int .i64 0, .int .i64 0, .int .i64 0, .int .i64 0, .int .i64 0] 33) = W0 at *
  have HBL := Lib.hid hbl; clear hbl
  have HH := Lib.hid heq; clear heq
  go_wp2_with fail
  refine (open_ok W0 _ v q HV.out (Nat.le_refl _) HQ.out (by omega) h2 HH.out).mono ?_
  rintro e W1 ⟨v1, rfl, ho1, hb1⟩
  have HR1 := Lib.hid (Rd.of_own ho1)
  have HZ1 := Lib.hid (Below.row hb1 HZ.out HZ.out.lt)
  have HB1 := Lib.hid (HB0.out.trans (hb1.mono (by have := HZ.out.lt; omega)))
  have HOQ : Hid (∀ x ∈ q.take (q.length - 2), x < 256) := fun x hx => HQ.out x (List.mem_of_mem_take hx)
  have HOL : Hid ((q.take (q.length - 2)).length ≤ 4000) := by show _ ≤ _; rw [List.length_take]; omega
  generalize q.take (q.length - 2) = o at *
  clear ho1 hb1
  go_wp2_with fail
  refine (newReader_any W1 v1 o HR1.out (by have := HOL.out; omega)).mono ?_
  rintro e W2 ⟨g, rfl, hg, hr, hb2⟩
  have HS2 := Lib.hid (RS.of_reader hr HOL.out HOQ.out)
  have HZ2 := Lib.hid (Below.row hb2 HZ1.out HZ1.out.lt)
  have HB2 := Lib.hid (HB1.out.trans (hb2.mono (by have := HZ1.out.lt; omega)))
  have HG : Hid (n0 < g) := by have := HZ1.out.lt; show _ < _; omega
  clear hg hr hb2
  go_wp2_with fail
  refine (getLetters_any W2 _ g (body o) HS2.out).mono ?_
  rintro e W3 ⟨rfl, hs3, hk3⟩
  have HZ3 := Lib.hid (hk3.row HZ2.out (by have := HG.out; simp; omega))
  have HB3 := Lib.hid (HB2.out.trans (hk3.below (by have := HZ2.out.lt; omega) (by intro k hk; have := HG.out; simp at hk; omega)))
  clear hk3
  rw [HBL.out]
  clear hs3
  have hz := HZ3.out
  have q0 := hz.cell 0; have r0 := hz.frozen 0
  have q1 := hz.cell 1; have r1 := hz.frozen 1
  have q2 := hz.cell 2; have r2 := hz.frozen 2
  have q3 := hz.cell 3; have r3 := hz.frozen 3
  have q4 := hz.cell 4; have r4 := hz.frozen 4
  have q5 := hz.cell 5; have r5 := hz.frozen 5
  have q6 := hz.cell 6; have r6 := hz.frozen 6
  have q7 := hz.cell 7; have r7 := hz.frozen 7
  have q8 := hz.cell 8; have r8 := hz.frozen 8
  have q9 := hz.cell 9; have r9 := hz.frozen 9
  simp only [List.getElem?_toArray, List.getElem?_cons_zero, List.getElem?_cons_succ] at q0 q1 q2 q3 q4 q5 q6 q7 q8 q9
  go_wp2_with fail
  have rr0 : Row (W3.setCell ⟨n0, 0, none⟩ (.slice none 0 0)) n0 33 #[.slice none 0 0, .slice none 0 0, .slice none 0 0, .slice none 0 0, .slice none 0 0, .int .i64 0, .int .i64 0, .int .i64 0, .int .i64 0, .int .i64 0] := hz.set 0 (.slice none 0 0)
  have kk0 : Below n0 W3 (W3.setCell ⟨n0, 0, none⟩ (.slice none 0 0)) := (Below.refl n0 W3).setCell (p := ⟨n0, 0, none⟩) (Nat.le_refl _) (.slice none 0 0)
  have rr1 : Row ((W3.setCell ⟨n0, 0, none⟩ (.slice none 0 0)).setCell ⟨n0, 1, none⟩ (.slice none 0 0)) n0 33 #[.slice none 0 0, .slice none 0 0, .slice none 0 0, .slice none 0 0, .slice none 0 0, .int .i64 0, .int .i64 0, .int .i64 0, .int .i64 0, .int .i64 0] := rr0.set 1 (.slice none 0 0)
  have kk1 : Below n0 W3 ((W3.setCell ⟨n0, 0, none⟩ (.slice none 0 0)).setCell ⟨n0, 1, none⟩ (.slice none 0 0)) := kk0.setCell (p := ⟨n0, 1, none⟩) (Nat.le_refl _) (.slice none 0 0)
  have rr2 : Row (((W3.setCell ⟨n0, 0, none⟩ (.slice none 0 0)).setCell ⟨n0, 1, none⟩ (.slice none 0 0)).setCell ⟨n0, 2, none⟩ (.slice none 0 0)) n0 33 #[.slice none 0 0, .slice none 0 0, .slice none 0 0, .slice none 0 0, .slice none 0 0, .int .i64 0, .int .i64 0, .int .i64 0, .int .i64 0, .int .i64 0] := rr1.set 2 (.slice none 0 0)
  have kk2 : Below n0 W3 (((W3.setCell ⟨n0, 0, none⟩ (.slice none 0 0)).setCell ⟨n0, 1, none⟩ (.slice none 0 0)).setCell ⟨n0, 2, none⟩ (.slice none 0 0)) := kk1.setCell (p := ⟨n0, 2, none⟩) (Nat.le_refl _) (.slice none 0 0)
  have rr3 : Row ((((W3.setCell ⟨n0, 0, none⟩ (.slice none 0 0)).setCell ⟨n0, 1, none⟩ (.slice none 0 0)).setCell ⟨n0, 2, none⟩ (.slice none 0 0)).setCell ⟨n0, 3, none⟩ (.slice none 0 0)) n0 33 #[.slice none 0 0, .slice none 0 0, .slice none 0 0, .slice none 0 0, .slice none 0 0, .int .i64 0, .int .i64 0, .int .i64 0, .int .i64 0, .int .i64 0] := rr2.set 3 (.slice none 0 0)
  have kk3 : Below n0 W3 ((((W3.setCell ⟨n0, 0, none⟩ (.slice none 0 0)).setCell ⟨n0, 1, none⟩ (.slice none 0 0)).setCell ⟨n0, 2, none⟩ (.slice none 0 0)).setCell ⟨n0, 3, none⟩ (.slice none 0 0)) := kk2.setCell (p := ⟨n0, 3, none⟩) (Nat.le_refl _) (.slice none 0 0)
  have rr4 : Row (((((W3.setCell ⟨n0, 0, none⟩ (.slice none 0 0)).setCell ⟨n0, 1, none⟩ (.slice none 0 0)).setCell ⟨n0, 2, none⟩ (.slice none 0 0)).setCell ⟨n0, 3, none⟩ (.slice none 0 0)).setCell ⟨n0, 4, none⟩ (.slice none 0 0)) n0 33 #[.slice none 0 0, .slice none 0 0, .slice none 0 0, .slice none 0 0, .slice none 0 0, .int .i64 0, .int .i64 0, .int .i64 0, .int .i64 0, .int .i64 0] := rr3.set 4 (.slice none 0 0)
  have kk4 : Below n0 W3 (((((W3.setCell ⟨n0, 0, none⟩ (.slice none 0 0)).setCell ⟨n0, 1, none⟩ (.slice none 0 0)).setCell ⟨n0, 2, none⟩ (.slice none 0 0)).setCell ⟨n0, 3, none⟩ (.slice none 0 0)).setCell ⟨n0, 4, none⟩ (.slice none 0 0)) := kk3.setCell (p := ⟨n0, 4, none⟩) (Nat.le_refl _) (.slice none 0 0)
  have rr5 : Row ((((((W3.setCell ⟨n0, 0, none⟩ (.slice none 0 0)).setCell ⟨n0, 1, none⟩ (.slice none 0 0)).setCell ⟨n0, 2, none⟩ (.slice none 0 0)).setCell ⟨n0, 3, none⟩ (.slice none 0 0)).setCell ⟨n0, 4, none⟩ (.slice none 0 0)).setCell ⟨n0, 5, none⟩ (.int .i64 0)) n0 33 #[.slice none 0 0, .slice none 0 0, .slice none 0 0, .slice none 0 0, .slice none 0 0, .int .i64 0, .int .i64 0, .int .i64 0, .int .i64 0, .int .i64 0] := rr4.set 5 (.int .i64 0)
  have kk5 : Below n0 W3 ((((((W3.setCell ⟨n0, 0, none⟩ (.slice none 0 0)).setCell ⟨n0, 1, none⟩ (.slice none 0 0)).setCell ⟨n0, 2, none⟩ (.slice none 0 0)).setCell ⟨n0, 3, none⟩ (.slice none 0 0)).setCell ⟨n0, 4, none⟩ (.slice none 0 0)).setCell ⟨n0, 5, none⟩ (.int .i64 0)) := kk4.setCell (p := ⟨n0, 5, none⟩) (Nat.le_refl _) (.int .i64 0)
  have rr6 : Row (((((((W3.setCell ⟨n0, 0, none⟩ (.slice none 0 0)).setCell ⟨n0, 1, none⟩ (.slice none 0 0)).setCell ⟨n0, 2, none⟩ (.slice none 0 0)).setCell ⟨n0, 3, none⟩ (.slice none 0 0)).setCell ⟨n0, 4, none⟩ (.slice none 0 0)).setCell ⟨n0, 5, none⟩ (.int .i64 0)).setCell ⟨n0, 6, none⟩ (.int .i64 0)) n0 33 #[.slice none 0 0, .slice none 0 0, .slice none 0 0, .slice none 0 0, .slice none 0 0, .int .i64 0, .int .i64 0, .int .i64 0, .int .i64 0, .int .i64 0] := rr5.set 6 (.int .i64 0)
  have kk6 : Below n0 W3 (((((((W3.setCell ⟨n0, 0, none⟩ (.slice none 0 0)).setCell ⟨n0, 1, none⟩ (.slice none 0 0)).setCell ⟨n0, 2, none⟩ (.slice none 0 0)).setCell ⟨n0, 3, none⟩ (.slice none 0 0)).setCell ⟨n0, 4, none⟩ (.slice none 0 0)).setCell ⟨n0, 5, none⟩ (.int .i64 0)).setCell ⟨n0, 6, none⟩ (.int .i64 0)) := kk5.setCell (p := ⟨n0, 6, none⟩) (Nat.le_refl _) (.int .i64 0)
  have rr7 : Row ((((((((W3.setCell ⟨n0, 0, none⟩ (.slice none 0 0)).setCell ⟨n0, 1, none⟩ (.slice none 0 0)).setCell ⟨n0, 2, none⟩ (.slice none 0 0)).setCell ⟨n0, 3, none⟩ (.slice none 0 0)).setCell ⟨n0, 4, none⟩ (.slice none 0 0)).setCell ⟨n0, 5, none⟩ (.int .i64 0)).setCell ⟨n0, 6, none⟩ (.int .i64 0)).setCell ⟨n0, 7, none⟩ (.int .i64 0)) n0 33 #[.slice none 0 0, .slice none 0 0, .slice none 0 0, .slice none 0 0, .slice none 0 0, .int .i64 0, .int .i64 0, .int .i64 0, .int .i64 0, .int .i64 0] := rr6.set 7 (.int .i64 0)
  have kk7 : Below n0 W3 ((((((((W3.setCell ⟨n0, 0, none⟩ (.slice none 0 0)).setCell ⟨n0, 1, none⟩ (.slice none 0 0)).setCell ⟨n0, 2, none⟩ (.slice none 0 0)).setCell ⟨n0, 3, none⟩ (.slice none 0 0)).setCell ⟨n0, 4, none⟩ (.slice none 0 0)).setCell ⟨n0, 5, none⟩ (.int .i64 0)).setCell ⟨n0, 6, none⟩ (.int .i64 0)).setCell ⟨n0, 7, none⟩ (.int .i64 0)) := kk6.setCell (p := ⟨n0, 7, none⟩) (Nat.le_refl _) (.int .i64 0)
  have rr8 : Row (((((((((W3.setCell ⟨n0, 0, none⟩ (.slice none 0 0)).setCell ⟨n0, 1, none⟩ (.slice none 0 0)).setCell ⟨n0, 2, none⟩ (.slice none 0 0)).setCell ⟨n0, 3, none⟩ (.slice none 0 0)).setCell ⟨n0, 4, none⟩ (.slice none 0 0)).setCell ⟨n0, 5, none⟩ (.int .i64 0)).setCell ⟨n0, 6, none⟩ (.int .i64 0)).setCell ⟨n0, 7, none⟩ (.int .i64 0)).setCell ⟨n0, 8, none⟩ (.int .i64 0)) n0 33 #[.slice none 0 0, .slice none 0 0, .slice none 0 0, .slice none 0 0, .slice none 0 0, .int .i64 0, .int .i64 0, .int .i64 0, .int .i64 0, .int .i64 0] := rr7.set 8 (.int .i64 0)
  have kk8 : Below n0 W3 (((((((((W3.setCell ⟨n0, 0, none⟩ (.slice none 0 0)).setCell ⟨n0, 1, none⟩ (.slice none 0 0)).setCell ⟨n0, 2, none⟩ (.slice none 0 0)).setCell ⟨n0, 3, none⟩ (.slice none 0 0)).setCell ⟨n0, 4, none⟩ (.slice none 0 0)).setCell ⟨n0, 5, none⟩ (.int .i64 0)).setCell ⟨n0, 6, none⟩ (.int .i64 0)).setCell ⟨n0, 7, none⟩ (.int .i64 0)).setCell ⟨n0, 8, none⟩ (.int .i64 0)) := kk7.setCell (p := ⟨n0, 8, none⟩) (Nat.le_refl _) (.int .i64 0)
  have rr9 : Row ((((((((((W3.setCell ⟨n0, 0, none⟩ (.slice none 0 0)).setCell ⟨n0, 1, none⟩ (.slice none 0 0)).setCell ⟨n0, 2, none⟩ (.slice none 0 0)).setCell ⟨n0, 3, none⟩ (.slice none 0 0)).setCell ⟨n0, 4, none⟩ (.slice none 0 0)).setCell ⟨n0, 5, none⟩ (.int .i64 0)).setCell ⟨n0, 6, none⟩ (.int .i64 0)).setCell ⟨n0, 7, none⟩ (.int .i64 0)).setCell ⟨n0, 8, none⟩ (.int .i64 0)).setCell ⟨n0, 9, none⟩ (.int .i64 0)) n0 33 #[.slice none 0 0, .slice none 0 0, .slice none 0 0, .slice none 0 0, .slice none 0 0, .int .i64 0, .int .i64 0, .int .i64 0, .int .i64 0, .int .i64 0] := rr8.set 9 (.int .i64 0)
  have kk9 : Below n0 W3 ((((((((((W3.setCell ⟨n0, 0, none⟩ (.slice none 0 0)).setCell ⟨n0, 1, none⟩ (.slice none 0 0)).setCell ⟨n0, 2, none⟩ (.slice none 0 0)).setCell ⟨n0, 3, none⟩ (.slice none 0 0)).setCell ⟨n0, 4, none⟩ (.slice none 0 0)).setCell ⟨n0, 5, none⟩ (.int .i64 0)).setCell ⟨n0, 6, none⟩ (.int .i64 0)).setCell ⟨n0, 7, none⟩ (.int .i64 0)).setCell ⟨n0, 8, none⟩ (.int .i64 0)).setCell ⟨n0, 9, none⟩ (.int .i64 0)) := kk8.setCell (p := ⟨n0, 9, none⟩) (Nat.le_refl _) (.int .i64 0)
  refine bodyPost_ret (results_cell_tmp_row rfl _ _ n0 33 #[.slice none 0 0, .slice none 0 0, .slice none 0 0, .slice none 0 0, .slice none 0 0, .int .i64 0, .int .i64 0, .int .i64 0, .int .i64 0, .int .i64 0] (0, 0) _ rfl rr9 Try.underlying33 rfl Try.size33) rfl ?_
  exact ⟨_, rfl, lay0 _ _, by rw [← HN0.out]; exact HB3.out.trans kk9⟩

set_option maxHeartbeats 4000000 in
theorem decode_fail (w : World) (v : Value) (q : List Nat) (h : Rd w w.heap.size v (bvals q)) (hq : ∀ x ∈ q, x < 256) (hl : q.length ≤ 4000) (h2 : 2 ≤ q.length) (heq : sumOf (q.take (q.length - 2)) = tailNum q) (hbl : okBL (body (q.take (q.length - 2))) = true) (hn : (tlay (tget 8 (tget 8 (body (q.take (q.length - 2)))).2).2).2 = none) : Calls Try.prog 13 #[v] w (RetDec (L0, 4) w) := by
  have HB0 := Lib.hid ((Below.refl w.heap.size w).alloc (Nat.le_refl _) (.cells #[.slice none 0 0, .slice none 0 0, .slice none 0 0, .slice none 0 0, .slice none 0 0, .int .i64 0, .int .i64 0, .int .i64 0, .int .i64 0, .int .i64 0] 33))
  have HZ := Lib.hid (Row.new w 33 #[.slice none 0 0, .slice none 0 0, .slice none 0 0, .slice none 0 0, .slice none 0 0, .int .i64 0, .int .i64 0, .int .i64 0, .int .i64 0, .int .i64 0])
  have HV : Hid (Rd (w.alloc (.cells #[.slice none 0 0, .slice none 0 0, .slice none 0 0, .slice none 0 0, .slice none 0 0, .int .i64 0, .int .i64 0, .int .i64 0, .int .i64 0, .int .i64 0] 33)) (w.alloc (.cells #[.slice none 0 0, .slice none 0 0, .slice none 0 0, .slice none 0 0, .slice none 0 0, .int .i64 0, .int .i64 0, .int .i64 0, .int .i64 0, .int .i64 0] 33)).heap.size v (bvals q)) := h.up HB0.out
  have HQ := Lib.hid hq
  clear h hq
  go_enter Try.func13, Try.ntmps13
  go_upto_region 1 with (fail)
  obtain ⟨n0, hn0⟩ : ∃ n, n = w.heap.size := ⟨_, rfl⟩
  rw [← hn0] at HZ HB0 ⊢
  have HN0 := Lib.hid hn0; clear hn0
  generalize w.alloc (.cells #[.slice none 0 0, .slice none 0 0, .slice none 0 0, .slice none 0 0, .slice none 0 0, .int .i64 0, .int .i64 0, .int .i64 0, .int .i64 0, .int .i64 0] 33) = W0 at *
  have HBL := Lib.hid hbl; have HNN := Lib.hid hn; clear hbl hn
  have HH := Lib.hid heq; clear heq
  go_wp2_with fail
  refine (open_ok W0 _ v q HV.out (Nat.le_refl _) HQ.out (by omega) h2 HH.out).mono ?_
  rintro e W1 ⟨v1, rfl, ho1, hb1⟩
  have HR1 := Lib.hid (Rd.of_own ho1)
  have HZ1 := Lib.hid (Below.row hb1 HZ.out HZ.out.lt)
  have HB1 := Lib.hid (HB0.out.trans (hb1.mono (by have := HZ.out.lt; omega)))
  have HOQ : Hid (∀ x ∈ q.take (q.length - 2), x < 256) := fun x hx => HQ.out x (List.mem_of_mem_take hx)
  have HOL : Hid ((q.take (q.length - 2)).length ≤ 4000) := by show _ ≤ _; rw [List.length_take]; omega
  generalize q.take (q.length - 2) = o at *
  clear ho1 hb1
  go_wp2_with fail
  refine (newReader_any W1 v1 o HR1.out (by have := HOL.out; omega)).mono ?_
  rintro e W2 ⟨g, rfl, hg, hr, hb2⟩
  have HS2 := Lib.hid (RS.of_reader hr HOL.out HOQ.out)
  have HZ2 := Lib.hid (Below.row hb2 HZ1.out HZ1.out.lt)
  have HB2 := Lib.hid (HB1.out.trans (hb2.mono (by have := HZ1.out.lt; omega)))
  have HG : Hid (n0 < g) := by have := HZ1.out.lt; show _ < _; omega
  clear hg hr hb2
  go_wp2_with fail
  refine (getLetters_any W2 _ g (body o) HS2.out).mono ?_
  rintro e W3 ⟨rfl, hs3, hk3⟩
  have HZ3 := Lib.hid (hk3.row HZ2.out (by have := HG.out; simp; omega))
  have HB3 := Lib.hid (HB2.out.trans (hk3.below (by have := HZ2.out.lt; omega) (by intro k hk; have := HG.out; simp at hk; omega)))
  clear hk3
  rw [HBL.out]
  have HS3 := Lib.hid (hs3 HBL.out)
  clear hs3
  go_wp2_with fail
  refine (getLayout_any W3 _ g _ HS3.out).mono ?_
  rintro e W4 ⟨v4, rfl, hv4, hs4, hk4⟩
  have HZ4 := Lib.hid (hk4.row HZ3.out (by have := HG.out; simp; omega))
  have HB4 := Lib.hid (HB3.out.trans (hk4.below (by have := HZ3.out.lt; omega) (by intro k hk; have := HG.out; simp at hk; omega)))
  clear hk4
  obtain ⟨vN, vS, vP, vQ, vR, hv4e, hF⟩ := hv4
  obtain ⟨A0, c0, rfl⟩ := hF.n.slice
  obtain ⟨A1, c1, rfl⟩ := hF.s.slice
  obtain ⟨A2, c2, rfl⟩ := hF.p.slice
  obtain ⟨A3, c3, rfl⟩ := hF.q.slice
  obtain ⟨A4, c4, rfl⟩ := hF.r.slice
  obtain ⟨L, hL⟩ : ∃ L, (tlay (tget 8 (tget 8 (body o)).2).2).1 = L := ⟨_, rfl⟩
  rw [hL] at hv4e hF
  subst hv4e
  have HL := Lib.hid hL; clear hL
  have HF := Lib.hid hF; clear hF
  generalize hk0 : L.nodes.length = k0 at *
  generalize hk1 : L.secs.length = k1 at *
  generalize hk2 : L.parts.length = k2 at *
  generalize hk3 : L.points.length = k3 at *
  generalize hk4 : L.routes.length = k4 at *
  generalize ht0 : L.speed = t0 at *
  generalize ht1 : L.mute = t1 at *
  generalize ht2 : L.wait = t2 at *
  generalize ht3 : L.cancel = t3 at *
  generalize ht4 : L.stay = t4 at *
  have HT : Hid (L.speed = t0 ∧ L.mute = t1 ∧ L.wait = t2 ∧ L.cancel = t3 ∧ L.stay = t4) := ⟨ht0, ht1, ht2, ht3, ht4⟩
  clear hk0 hk1 hk2 hk3 hk4 ht0 ht1 ht2 ht3 ht4
  have hb5 := (Below.refl W4.heap.size W4).alloc (Nat.le_refl _) (.cells #[.slice A0 k0 c0, .slice A1 k1 c1, .slice A2 k2 c2, .slice A3 k3 c3, .slice A4 k4 c4, .int .i64 t0, .int .i64 t1, .int .i64 t2, .int .i64 t3, .int .i64 t4] 33)
  have HS5 := Lib.hid (hs4.fresh hb5)
  have HZ5 := Lib.hid (HZ4.out.alloc (.cells #[.slice A0 k0 c0, .slice A1 k1 c1, .slice A2 k2 c2, .slice A3 k3 c3, .slice A4 k4 c4, .int .i64 t0, .int .i64 t1, .int .i64 t2, .int .i64 t3, .int .i64 t4] 33))
  have HB5 := Lib.hid (HB4.out.trans (hb5.mono (by have := HZ4.out.lt; omega)))
  have HN5 := Lib.hid (Row.new W4 33 #[.slice A0 k0 c0, .slice A1 k1 c1, .slice A2 k2 c2, .slice A3 k3 c3, .slice A4 k4 c4, .int .i64 t0, .int .i64 t1, .int .i64 t2, .int .i64 t3, .int .i64 t4])
  have HV5 := Lib.hid (HF.out.kept (KeptL.of_below (S := []) hb5) (by intro t _ k hk; simp at hk))
  have HLT : Hid (n0 < W4.heap.size) := HZ4.out.lt
  clear hs4 hb5
  go_upto_region 8 with (fail)
  obtain ⟨b7, hb7⟩ : ∃ n, n = W4.heap.size := ⟨_, rfl⟩
  rw [← hb7] at HN5 HLT ⊢
  clear hb7
  generalize W4.alloc (.cells #[.slice A0 k0 c0, .slice A1 k1 c1, .slice A2 k2 c2, .slice A3 k3 c3, .slice A4 k4 c4, .int .i64 t0, .int .i64 t1, .int .i64 t2, .int .i64 t3, .int .i64 t4] 33) = W5 at *
  go_wp2_with fail
  refine (ok_any W5 _ g _ HS5.out).mono ?_
  rintro e W6 ⟨rfl, rfl⟩
  rw [HNN.out]
  have hz := HZ5.out
  have q0 := hz.cell 0; have r0 := hz.frozen 0
  have q1 := hz.cell 1; have r1 := hz.frozen 1
  have q2 := hz.cell 2; have r2 := hz.frozen 2
  have q3 := hz.cell 3; have r3 := hz.frozen 3
  have q4 := hz.cell 4; have r4 := hz.frozen 4
  have q5 := hz.cell 5; have r5 := hz.frozen 5
  have q6 := hz.cell 6; have r6 := hz.frozen 6
  have q7 := hz.cell 7; have r7 := hz.frozen 7
  have q8 := hz.cell 8; have r8 := hz.frozen 8
  have q9 := hz.cell 9; have r9 := hz.frozen 9
  simp only [List.getElem?_toArray, List.getElem?_cons_zero, List.getElem?_cons_succ] at q0 q1 q2 q3 q4 q5 q6 q7 q8 q9
  go_wp2_with fail
  have rr0 : Row (W5.setCell ⟨n0, 0, none⟩ (.slice none 0 0)) n0 33 #[.slice none 0 0, .slice none 0 0, .slice none 0 0, .slice none 0 0, .slice none 0 0, .int .i64 0, .int .i64 0, .int .i64 0, .int .i64 0, .int .i64 0] := hz.set 0 (.slice none 0 0)
  have kk0 : Below n0 W5 (W5.setCell ⟨n0, 0, none⟩ (.slice none 0 0)) := (Below.refl n0 W5).setCell (p := ⟨n0, 0, none⟩) (Nat.le_refl _) (.slice none 0 0)
  have rr1 : Row ((W5.setCell ⟨n0, 0, none⟩ (.slice none 0 0)).setCell ⟨n0, 1, none⟩ (.slice none 0 0)) n0 33 #[.slice none 0 0, .slice none 0 0, .slice none 0 0, .slice none 0 0, .slice none 0 0, .int .i64 0, .int .i64 0, .int .i64 0, .int .i64 0, .int .i64 0] := rr0.set 1 (.slice none 0 0)
  have kk1 : Below n0 W5 ((W5.setCell ⟨n0, 0, none⟩ (.slice none 0 0)).setCell ⟨n0, 1, none⟩ (.slice none 0 0)) := kk0.setCell (p := ⟨n0, 1, none⟩) (Nat.le_refl _) (.slice none 0 0)
  have rr2 : Row (((W5.setCell ⟨n0, 0, none⟩ (.slice none 0 0)).setCell ⟨n0, 1, none⟩ (.slice none 0 0)).setCell ⟨n0, 2, none⟩ (.slice none 0 0)) n0 33 #[.slice none 0 0, .slice none 0 0, .slice none 0 0, .slice none 0 0, .slice none 0 0, .int .i64 0, .int .i64 0, .int .i64 0, .int .i64 0, .int .i64 0] := rr1.set 2 (.slice none 0 0)
  have kk2 : Below n0 W5 (((W5.setCell ⟨n0, 0, none⟩ (.slice none 0 0)).setCell ⟨n0, 1, none⟩ (.slice none 0 0)).setCell ⟨n0, 2, none⟩ (.slice none 0 0)) := kk1.setCell (p := ⟨n0, 2, none⟩) (Nat.le_refl _) (.slice none 0 0)
  have rr3 : Row ((((W5.setCell ⟨n0, 0, none⟩ (.slice none 0 0)).setCell ⟨n0, 1, none⟩ (.slice none 0 0)).setCell ⟨n0, 2, none⟩ (.slice none 0 0)).setCell ⟨n0, 3, none⟩ (.slice none 0 0)) n0 33 #[.slice none 0 0, .slice none 0 0, .slice none 0 0, .slice none 0 0, .slice none 0 0, .int .i64 0, .int .i64 0, .int .i64 0, .int .i64 0, .int .i64 0] := rr2.set 3 (.slice none 0 0)
  have kk3 : Below n0 W5 ((((W5.setCell ⟨n0, 0, none⟩ (.slice none 0 0)).setCell ⟨n0, 1, none⟩ (.slice none 0 0)).setCell ⟨n0, 2, none⟩ (.slice none 0 0)).setCell ⟨n0, 3, none⟩ (.slice none 0 0)) := kk2.setCell (p := ⟨n0, 3, none⟩) (Nat.le_refl _) (.slice none 0 0)
  have rr4 : Row (((((W5.setCell ⟨n0, 0, none⟩ (.slice none 0 0)).setCell ⟨n0, 1, none⟩ (.slice none 0 0)).setCell ⟨n0, 2, none⟩ (.slice none 0 0)).setCell ⟨n0, 3, none⟩ (.slice none 0 0)).setCell ⟨n0, 4, none⟩ (.slice none 0 0)) n0 33 #[.slice none 0 0, .slice none 0 0, .slice none 0 0, .slice none 0 0, .slice none 0 0, .int .i64 0, .int .i64 0, .int .i64 0, .int .i64 0, .int .i64 0] := rr3.set 4 (.slice none 0 0)
  have kk4 : Below n0 W5 (((((W5.setCell ⟨n0, 0, none⟩ (.slice none 0 0)).setCell ⟨n0, 1, none⟩ (.slice none 0 0)).setCell ⟨n0, 2, none⟩ (.slice none 0 0)).setCell ⟨n0, 3, none⟩ (.slice none 0 0)).setCell ⟨n0, 4, none⟩ (.slice none 0 0)) := kk3.setCell (p := ⟨n0, 4, none⟩) (Nat.le_refl _) (.slice none 0 0)
  have rr5 : Row ((((((W5.setCell ⟨n0, 0, none⟩ (.slice none 0 0)).setCell ⟨n0, 1, none⟩ (.slice none 0 0)).setCell ⟨n0, 2, none⟩ (.slice none 0 0)).setCell ⟨n0, 3, none⟩ (.slice none 0 0)).setCell ⟨n0, 4, none⟩ (.slice none 0 0)).setCell ⟨n0, 5, none⟩ (.int .i64 0)) n0 33 #[.slice none 0 0, .slice none 0 0, .slice none 0 0, .slice none 0 0, .slice none 0 0, .int .i64 0, .int .i64 0, .int .i64 0, .int .i64 0, .int .i64 0] := rr4.set 5 (.int .i64 0)
  have kk5 : Below n0 W5 ((((((W5.setCell ⟨n0, 0, none⟩ (.slice none 0 0)).setCell ⟨n0, 1, none⟩ (.slice none 0 0)).setCell ⟨n0, 2, none⟩ (.slice none 0 0)).setCell ⟨n0, 3, none⟩ (.slice none 0 0)).setCell ⟨n0, 4, none⟩ (.slice none 0 0)).setCell ⟨n0, 5, none⟩ (.int .i64 0)) := kk4.setCell (p := ⟨n0, 5, none⟩) (Nat.le_refl _) (.int .i64 0)
  have rr6 : Row (((((((W5.setCell ⟨n0, 0, none⟩ (.slice none 0 0)).setCell ⟨n0, 1, none⟩ (.slice none 0 0)).setCell ⟨n0, 2, none⟩ (.slice none 0 0)).setCell ⟨n0, 3, none⟩ (.slice none 0 0)).setCell ⟨n0, 4, none⟩ (.slice none 0 0)).setCell ⟨n0, 5, none⟩ (.int .i64 0)).setCell ⟨n0, 6, none⟩ (.int .i64 0)) n0 33 #[.slice none 0 0, .slice none 0 0, .slice none 0 0, .slice none 0 0, .slice none 0 0, .int .i64 0, .int .i64 0, .int .i64 0, .int .i64 0, .int .i64 0] := rr5.set 6 (.int .i64 0)
  have kk6 : Below n0 W5 (((((((W5.setCell ⟨n0, 0, none⟩ (.slice none 0 0)).setCell ⟨n0, 1, none⟩ (.slice none 0 0)).setCell ⟨n0, 2, none⟩ (.slice none 0 0)).setCell ⟨n0, 3, none⟩ (.slice none 0 0)).setCell ⟨n0, 4, none⟩ (.slice none 0 0)).setCell ⟨n0, 5, none⟩ (.int .i64 0)).setCell ⟨n0, 6, none⟩ (.int .i64 0)) := kk5.setCell (p := ⟨n0, 6, none⟩) (Nat.le_refl _) (.int .i64 0)
  have rr7 : Row ((((((((W5.setCell ⟨n0, 0, none⟩ (.slice none 0 0)).setCell ⟨n0, 1, none⟩ (.slice none 0 0)).setCell ⟨n0, 2, none⟩ (.slice none 0 0)).setCell ⟨n0, 3, none⟩ (.slice none 0 0)).setCell ⟨n0, 4, none⟩ (.slice none 0 0)).setCell ⟨n0, 5, none⟩ (.int .i64 0)).setCell ⟨n0, 6, none⟩ (.int .i64 0)).setCell ⟨n0, 7, none⟩ (.int .i64 0)) n0 33 #[.slice none 0 0, .slice none 0 0, .slice none 0 0, .slice none 0 0, .slice none 0 0, .int .i64 0, .int .i64 0, .int .i64 0, .int .i64 0, .int .i64 0] := rr6.set 7 (.int .i64 0)
  have kk7 : Below n0 W5 ((((((((W5.setCell ⟨n0, 0, none⟩ (.slice none 0 0)).setCell ⟨n0, 1, none⟩ (.slice none 0 0)).setCell ⟨n0, 2, none⟩ (.slice none 0 0)).setCell ⟨n0, 3, none⟩ (.slice none 0 0)).setCell ⟨n0, 4, none⟩ (.slice none 0 0)).setCell ⟨n0, 5, none⟩ (.int .i64 0)).setCell ⟨n0, 6, none⟩ (.int .i64 0)).setCell ⟨n0, 7, none⟩ (.int .i64 0)) := kk6.setCell (p := ⟨n0, 7, none⟩) (Nat.le_refl _) (.int .i64 0)
  have rr8 : Row (((((((((W5.setCell ⟨n0, 0, none⟩ (.slice none 0 0)).setCell ⟨n0, 1, none⟩ (.slice none 0 0)).setCell ⟨n0, 2, none⟩ (.slice none 0 0)).setCell ⟨n0, 3, none⟩ (.slice none 0 0)).setCell ⟨n0, 4, none⟩ (.slice none 0 0)).setCell ⟨n0, 5, none⟩ (.int .i64 0)).setCell ⟨n0, 6, none⟩ (.int .i64 0)).setCell ⟨n0, 7, none⟩ (.int .i64 0)).setCell ⟨n0, 8, none⟩ (.int .i64 0)) n0 33 #[.slice none 0 0, .slice none 0 0, .slice none 0 0, .slice none 0 0, .slice none 0 0, .int .i64 0, .int .i64 0, .int .i64 0, .int .i64 0, .int .i64 0] := rr7.set 8 (.int .i64 0)
  have kk8 : Below n0 W5 (((((((((W5.setCell ⟨n0, 0, none⟩ (.slice none 0 0)).setCell ⟨n0, 1, none⟩ (.slice none 0 0)).setCell ⟨n0, 2, none⟩ (.slice none 0 0)).setCell ⟨n0, 3, none⟩ (.slice none 0 0)).setCell ⟨n0, 4, none⟩ (.slice none 0 0)).setCell ⟨n0, 5, none⟩ (.int .i64 0)).setCell ⟨n0, 6, none⟩ (.int .i64 0)).setCell ⟨n0, 7, none⟩ (.int .i64 0)).setCell ⟨n0, 8, none⟩ (.int .i64 0)) := kk7.setCell (p := ⟨n0, 8, none⟩) (Nat.le_refl _) (.int .i64 0)
  have rr9 : Row ((((((((((W5.setCell ⟨n0, 0, none⟩ (.slice none 0 0)).setCell ⟨n0, 1, none⟩ (.slice none 0 0)).setCell ⟨n0, 2, none⟩ (.slice none 0 0)).setCell ⟨n0, 3, none⟩ (.slice none 0 0)).setCell ⟨n0, 4, none⟩ (.slice none 0 0)).setCell ⟨n0, 5, none⟩ (.int .i64 0)).setCell ⟨n0, 6, none⟩ (.int .i64 0)).setCell ⟨n0, 7, none⟩ (.int .i64 0)).setCell ⟨n0, 8, none⟩ (.int .i64 0)).setCell ⟨n0, 9, none⟩ (.int .i64 0)) n0 33 #[.slice none 0 0, .slice none 0 0, .slice none 0 0, .slice none 0 0, .slice none 0 0, .int .i64 0, .int .i64 0, .int .i64 0, .int .i64 0, .int .i64 0] := rr8.set 9 (.int .i64 0)
  have kk9 : Below n0 W5 ((((((((((W5.setCell ⟨n0, 0, none⟩ (.slice none 0 0)).setCell ⟨n0, 1, none⟩ (.slice none 0 0)).setCell ⟨n0, 2, none⟩ (.slice none 0 0)).setCell ⟨n0, 3, none⟩ (.slice none 0 0)).setCell ⟨n0, 4, none⟩ (.slice none 0 0)).setCell ⟨n0, 5, none⟩ (.int .i64 0)).setCell ⟨n0, 6, none⟩ (.int .i64 0)).setCell ⟨n0, 7, none⟩ (.int .i64 0)).setCell ⟨n0, 8, none⟩ (.int .i64 0)).setCell ⟨n0, 9, none⟩ (.int .i64 0)) := kk8.setCell (p := ⟨n0, 9, none⟩) (Nat.le_refl _) (.int .i64 0)
  refine bodyPost_ret (results_cell_tmp_row rfl _ _ n0 33 #[.slice none 0 0, .slice none 0 0, .slice none 0 0, .slice none 0 0, .slice none 0 0, .int .i64 0, .int .i64 0, .int .i64 0, .int .i64 0, .int .i64 0] (0, 0) _ rfl rr9 Try.underlying33 rfl Try.size33) rfl ?_
  exact ⟨_, rfl, lay0 _ _, by rw [← HN0.out]; exact HB5.out.trans kk9⟩

set_option maxHeartbeats 4000000 in
theorem decode_left (w : World) (v : Value) (q : List Nat) (h : Rd w w.heap.size v (bvals q)) (hq : ∀ x ∈ q, x < 256) (hl : q.length ≤ 4000) (h2 : 2 ≤ q.length) (heq : sumOf (q.take (q.length - 2)) = tailNum q) (hbl : okBL (body (q.take (q.length - 2))) = true) (l : List Bool) (hn : (tlay (tget 8 (tget 8 (body (q.take (q.length - 2)))).2).2).2 = some l) (hpos : 0 < l.length) : Calls Try.prog 13 #[v] w (RetDec (L0, 2) w) := by
  have HB0 := Lib.hid ((Below.refl w.heap.size w).alloc (Nat.le_refl _) (.cells #[.slice none 0 0, .slice none 0 0, .slice none 0 0, .slice none 0 0, .slice none 0 0, .int .i64 0, .int .i64 0, .int .i64 0, .int .i64 0, .int .i64 0] 33))
  have HZ := Lib.hid (Row.new w 33 #[.slice none 0 0, .slice none 0 0, .slice none 0 0, .slice none 0 0, .slice none 0 0, .int .i64 0, .int .i64 0, .int .i64 0, .int .i64 0, .int .i64 0])
  have HV : Hid (Rd (w.alloc (.cells #[.slice none 0 0, .slice none 0 0, .slice none 0 0, .slice none 0 0, .slice none 0 0, .int .i64 0, .int .i64 0, .int .i64 0, .int .i64 0, .int .i64 0] 33)) (w.alloc (.cells #[.slice none 0 0, .slice none 0 0, .slice none 0 0, .slice none 0 0, .slice none 0 0, .int .i64 0, .int .i64 0, .int .i64 0, .int .i64 0, .int .i64 0] 33)).heap.size v (bvals q)) := h.up HB0.out
  have HQ := Lib.hid hq
  clear h hq
  go_enter Try.func13, Try.ntmps13
  go_upto_region 1 with (fail)
  obtain ⟨n0, hn0⟩ : ∃ n, n = w.heap.size := ⟨_, rfl⟩
  rw [← hn0] at HZ HB0 ⊢
  have HN0 := Lib.hid hn0; clear hn0
  generalize w.alloc (.cells #[.slice none 0 0, .slice none 0 0, .slice none 0 0, .slice none 0 0, .slice none 0 0, .int .i64 0, .int .i64 0, .int .i64 0, .int .i64 0, .int .i64 0] 33) = W0 at *
  have HBL := Lib.hid hbl; have HNN := Lib.hid hn; clear hbl hn
  have HH := Lib.hid heq; clear heq
  go_wp2_with fail
  refine (open_ok W0 _ v q HV.out (Nat.le_refl _) HQ.out (by omega) h2 HH.out).mono ?_
  rintro e W1 ⟨v1, rfl, ho1, hb1⟩
  have HR1 := Lib.hid (Rd.of_own ho1)
  have HZ1 := Lib.hid (Below.row hb1 HZ.out HZ.out.lt)
  have HB1 := Lib.hid (HB0.out.trans (hb1.mono (by have := HZ.out.lt; omega)))
  have HOQ : Hid (∀ x ∈ q.take (q.length - 2), x < 256) := fun x hx => HQ.out x (List.mem_of_mem_take hx)
  have HOL : Hid ((q.take (q.length - 2)).length ≤ 4000) := by show _ ≤ _; rw [List.length_take]; omega
  generalize q.take (q.length - 2) = o at *
  clear ho1 hb1
  go_wp2_with fail
  refine (newReader_any W1 v1 o HR1.out (by have := HOL.out; omega)).mono ?_
  rintro e W2 ⟨g, rfl, hg, hr, hb2⟩
  have HS2 := Lib.hid (RS.of_reader hr HOL.out HOQ.out)
  have HZ2 := Lib.hid (Below.row hb2 HZ1.out HZ1.out.lt)
  have HB2 := Lib.hid (HB1.out.trans (hb2.mono (by have := HZ1.out.lt; omega)))
  have HG : Hid (n0 < g) := by have := HZ1.out.lt; show _ < _; omega
  clear hg hr hb2
  go_wp2_with fail
  refine (getLetters_any W2 _ g (body o) HS2.out).mono ?_
  rintro e W3 ⟨rfl, hs3, hk3⟩
  have HZ3 := Lib.hid (hk3.row HZ2.out (by have := HG.out; simp; omega))
  have HB3 := Lib.hid (HB2.out.trans (hk3.below (by have := HZ2.out.lt; omega) (by intro k hk; have := HG.out; simp at hk; omega)))
  clear hk3
  rw [HBL.out]
  have HS3 := Lib.hid (hs3 HBL.out)
  clear hs3
  go_wp2_with fail
  refine (getLayout_any W3 _ g _ HS3.out).mono ?_
  rintro e W4 ⟨v4, rfl, hv4, hs4, hk4⟩
  have HZ4 := Lib.hid (hk4.row HZ3.out (by have := HG.out; simp; omega))
  have HB4 := Lib.hid (HB3.out.trans (hk4.below (by have := HZ3.out.lt; omega) (by intro k hk; have := HG.out; simp at hk; omega)))
  clear hk4
  obtain ⟨vN, vS, vP, vQ, vR, hv4e, hF⟩ := hv4
  obtain ⟨A0, c0, rfl⟩ := hF.n.slice
  obtain ⟨A1, c1, rfl⟩ := hF.s.slice
  obtain ⟨A2, c2, rfl⟩ := hF.p.slice
  obtain ⟨A3, c3, rfl⟩ := hF.q.slice
  obtain ⟨A4, c4, rfl⟩ := hF.r.slice
  obtain ⟨L, hL⟩ : ∃ L, (tlay (tget 8 (tget 8 (body o)).2).2).1 = L := ⟨_, rfl⟩
  rw [hL] at hv4e hF
  subst hv4e
  have HL := Lib.hid hL; clear hL
  have HF := Lib.hid hF; clear hF
  generalize hk0 : L.nodes.length = k0 at *
  generalize hk1 : L.secs.length = k1 at *
  generalize hk2 : L.parts.length = k2 at *
  generalize hk3 : L.points.length = k3 at *
  generalize hk4 : L.routes.length = k4 at *
  generalize ht0 : L.speed = t0 at *
  generalize ht1 : L.mute = t1 at *
  generalize ht2 : L.wait = t2 at *
  generalize ht3 : L.cancel = t3 at *
  generalize ht4 : L.stay = t4 at *
  have HT : Hid (L.speed = t0 ∧ L.mute = t1 ∧ L.wait = t2 ∧ L.cancel = t3 ∧ L.stay = t4) := ⟨ht0, ht1, ht2, ht3, ht4⟩
  clear hk0 hk1 hk2 hk3 hk4 ht0 ht1 ht2 ht3 ht4
  have hb5 := (Below.refl W4.heap.size W4).alloc (Nat.le_refl _) (.cells #[.slice A0 k0 c0, .slice A1 k1 c1, .slice A2 k2 c2, .slice A3 k3 c3, .slice A4 k4 c4, .int .i64 t0, .int .i64 t1, .int .i64 t2, .int .i64 t3, .int .i64 t4] 33)
  have HS5 := Lib.hid (hs4.fresh hb5)
  have HZ5 := Lib.hid (HZ4.out.alloc (.cells #[.slice A0 k0 c0, .slice A1 k1 c1, .slice A2 k2 c2, .slice A3 k3 c3, .slice A4 k4 c4, .int .i64 t0, .int .i64 t1, .int .i64 t2, .int .i64 t3, .int .i64 t4] 33))
  have HB5 := Lib.hid (HB4.out.trans (hb5.mono (by have := HZ4.out.lt; omega)))
  have HN5 := Lib.hid (Row.new W4 33 #[.slice A0 k0 c0, .slice A1 k1 c1, .slice A2 k2 c2, .slice A3 k3 c3, .slice A4 k4 c4, .int .i64 t0, .int .i64 t1, .int .i64 t2, .int .i64 t3, .int .i64 t4])
  have HV5 := Lib.hid (HF.out.kept (KeptL.of_below (S := []) hb5) (by intro t _ k hk; simp at hk))
  have HLT : Hid (n0 < W4.heap.size) := HZ4.out.lt
  clear hs4 hb5
  go_upto_region 8 with (fail)
  obtain ⟨b7, hb7⟩ : ∃ n, n = W4.heap.size := ⟨_, rfl⟩
  rw [← hb7] at HN5 HLT ⊢
  clear hb7
  generalize W4.alloc (.cells #[.slice A0 k0 c0, .slice A1 k1 c1, .slice A2 k2 c2, .slice A3 k3 c3, .slice A4 k4 c4, .int .i64 t0, .int .i64 t1, .int .i64 t2, .int .i64 t3, .int .i64 t4] 33) = W5 at *
  go_wp2_with fail
  refine (ok_any W5 _ g _ HS5.out).mono ?_
  rintro e W6 ⟨rfl, rfl⟩
  rw [HNN.out] at HS5 ⊢
  go_wp2_with fail
  refine (left_any W5 _ g l HS5.out).mono ?_
  rintro e W7 ⟨rfl, m, hW7⟩
  have hz : Row W7 n0 33 #[.slice none 0 0, .slice none 0 0, .slice none 0 0, .slice none 0 0, .slice none 0 0, .int .i64 0, .int .i64 0, .int .i64 0, .int .i64 0, .int .i64 0] := by rw [hW7]; exact HZ5.out
  have HB7 : Hid (Below n0 w W7) := by rw [hW7]; exact below_drewN HB5.out m
  clear hW7
  have hp2 : (0 : Int) < (l.length : Int) := by omega
  have q0 := hz.cell 0; have r0 := hz.frozen 0
  have q1 := hz.cell 1; have r1 := hz.frozen 1
  have q2 := hz.cell 2; have r2 := hz.frozen 2
  have q3 := hz.cell 3; have r3 := hz.frozen 3
  have q4 := hz.cell 4; have r4 := hz.frozen 4
  have q5 := hz.cell 5; have r5 := hz.frozen 5
  have q6 := hz.cell 6; have r6 := hz.frozen 6
  have q7 := hz.cell 7; have r7 := hz.frozen 7
  have q8 := hz.cell 8; have r8 := hz.frozen 8
  have q9 := hz.cell 9; have r9 := hz.frozen 9
  simp only [List.getElem?_toArray, List.getElem?_cons_zero, List.getElem?_cons_succ] at q0 q1 q2 q3 q4 q5 q6 q7 q8 q9
  go_wp2_with fail
  have rr0 : Row (W7.setCell ⟨n0, 0, none⟩ (.slice none 0 0)) n0 33 #[.slice none 0 0, .slice none 0 0, .slice none 0 0, .slice none 0 0, .slice none 0 0, .int .i64 0, .int .i64 0, .int .i64 0, .int .i64 0, .int .i64 0] := hz.set 0 (.slice none 0 0)
  have kk0 : Below n0 W7 (W7.setCell ⟨n0, 0, none⟩ (.slice none 0 0)) := (Below.refl n0 W7).setCell (p := ⟨n0, 0, none⟩) (Nat.le_refl _) (.slice none 0 0)
  have rr1 : Row ((W7.setCell ⟨n0, 0, none⟩ (.slice none 0 0)).setCell ⟨n0, 1, none⟩ (.slice none 0 0)) n0 33 #[.slice none 0 0, .slice none 0 0, .slice none 0 0, .slice none 0 0, .slice none 0 0, .int .i64 0, .int .i64 0, .int .i64 0, .int .i64 0, .int .i64 0] := rr0.set 1 (.slice none 0 0)
  have kk1 : Below n0 W7 ((W7.setCell ⟨n0, 0, none⟩ (.slice none 0 0)).setCell ⟨n0, 1, none⟩ (.slice none 0 0)) := kk0.setCell (p := ⟨n0, 1, none⟩) (Nat.le_refl _) (.slice none 0 0)
  have rr2 : Row (((W7.setCell ⟨n0, 0, none⟩ (.slice none 0 0)).setCell ⟨n0, 1, none⟩ (.slice none 0 0)).setCell ⟨n0, 2, none⟩ (.slice none 0 0)) n0 33 #[.slice none 0 0, .slice none 0 0, .slice none 0 0, .slice none 0 0, .slice none 0 0, .int .i64 0, .int .i64 0, .int .i64 0, .int .i64 0, .int .i64 0] := rr1.set 2 (.slice none 0 0)
  have kk2 : Below n0 W7 (((W7.setCell ⟨n0, 0, none⟩ (.slice none 0 0)).setCell ⟨n0, 1, none⟩ (.slice none 0 0)).setCell ⟨n0, 2, none⟩ (.slice none 0 0)) := kk1.setCell (p := ⟨n0, 2, none⟩) (Nat.le_refl _) (.slice none 0 0)
  have rr3 : Row ((((W7.setCell ⟨n0, 0, none⟩ (.slice none 0 0)).setCell ⟨n0, 1, none⟩ (.slice none 0 0)).setCell ⟨n0, 2, none⟩ (.slice none 0 0)).setCell ⟨n0, 3, none⟩ (.slice none 0 0)) n0 33 #[.slice none 0 0, .slice none 0 0, .slice none 0 0, .slice none 0 0, .slice none 0 0, .int .i64 0, .int .i64 0, .int .i64 0, .int .i64 0, .int .i64 0] := rr2.set 3 (.slice none 0 0)
  have kk3 : Below n0 W7 ((((W7.setCell ⟨n0, 0, none⟩ (.slice none 0 0)).setCell ⟨n0, 1, none⟩ (.slice none 0 0)).setCell ⟨n0, 2, none⟩ (.slice none 0 0)).setCell ⟨n0, 3, none⟩ (.slice none 0 0)) := kk2.setCell (p := ⟨n0, 3, none⟩) (Nat.le_refl _) (.slice none 0 0)
  have rr4 : Row (((((W7.setCell ⟨n0, 0, none⟩ (.slice none 0 0)).setCell ⟨n0, 1, none⟩ (.slice none 0 0)).setCell ⟨n0, 2, none⟩ (.slice none 0 0)).setCell ⟨n0, 3, none⟩ (.slice none 0 0)).setCell ⟨n0, 4, none⟩ (.slice none 0 0)) n0 33 #[.slice none 0 0, .slice none 0 0, .slice none 0 0, .slice none 0 0, .slice none 0 0, .int .i64 0, .int .i64 0, .int .i64 0, .int .i64 0, .int .i64 0] := rr3.set 4 (.slice none 0 0)
  have kk4 : Below n0 W7 (((((W7.setCell ⟨n0, 0, none⟩ (.slice none 0 0)).setCell ⟨n0, 1, none⟩ (.slice none 0 0)).setCell ⟨n0, 2, none⟩ (.slice none 0 0)).setCell ⟨n0, 3, none⟩ (.slice none 0 0)).setCell ⟨n0, 4, none⟩ (.slice none 0 0)) := kk3.setCell (p := ⟨n0, 4, none⟩) (Nat.le_refl _) (.slice none 0 0)
  have rr5 : Row ((((((W7.setCell ⟨n0, 0, none⟩ (.slice none 0 0)).setCell ⟨n0, 1, none⟩ (.slice none 0 0)).setCell ⟨n0, 2, none⟩ (.slice none 0 0)).setCell ⟨n0, 3, none⟩ (.slice none 0 0)).setCell ⟨n0, 4, none⟩ (.slice none 0 0)).setCell ⟨n0, 5, none⟩ (.int .i64 0)) n0 33 #[.slice none 0 0, .slice none 0 0, .slice none 0 0, .slice none 0 0, .slice none 0 0, .int .i64 0, .int .i64 0, .int .i64 0, .int .i64 0, .int .i64 0] := rr4.set 5 (.int .i64 0)
  have kk5 : Below n0 W7 ((((((W7.setCell ⟨n0, 0, none⟩ (.slice none 0 0)).setCell ⟨n0, 1, none⟩ (.slice none 0 0)).setCell ⟨n0, 2, none⟩ (.slice none 0 0)).setCell ⟨n0, 3, none⟩ (.slice none 0 0)).setCell ⟨n0, 4, none⟩ (.slice none 0 0)).setCell ⟨n0, 5, none⟩ (.int .i64 0)) := kk4.setCell (p := ⟨n0, 5, none⟩) (Nat.le_refl _) (.int .i64 0)
  have rr6 : Row (((((((W7.setCell ⟨n0, 0, none⟩ (.slice none 0 0)).setCell ⟨n0, 1, none⟩ (.slice none 0 0)).setCell ⟨n0, 2, none⟩ (.slice none 0 0)).setCell ⟨n0, 3, none⟩ (.slice none 0 0)).setCell ⟨n0, 4, none⟩ (.slice none 0 0)).setCell ⟨n0, 5, none⟩ (.int .i64 0)).setCell ⟨n0, 6, none⟩ (.int .i64 0)) n0 33 #[.slice none 0 0, .slice none 0 0, .slice none 0 0, .slice none 0 0, .slice none 0 0, .int .i64 0, .int .i64 0, .int .i64 0, .int .i64 0, .int .i64 0] := rr5.set 6 (.int .i64 0)
  have kk6 : Below n0 W7 (((((((W7.setCell ⟨n0, 0, none⟩ (.slice none 0 0)).setCell ⟨n0, 1, none⟩ (.slice none 0 0)).setCell ⟨n0, 2, none⟩ (.slice none 0 0)).setCell ⟨n0, 3, none⟩ (.slice none 0 0)).setCell ⟨n0, 4, none⟩ (.slice none 0 0)).setCell ⟨n0, 5, none⟩ (.int .i64 0)).setCell ⟨n0, 6, none⟩ (.int .i64 0)) := kk5.setCell (p := ⟨n0, 6, none⟩) (Nat.le_refl _) (.int .i64 0)
  have rr7 : Row ((((((((W7.setCell ⟨n0, 0, none⟩ (.slice none 0 0)).setCell ⟨n0, 1, none⟩ (.slice none 0 0)).setCell ⟨n0, 2, none⟩ (.slice none 0 0)).setCell ⟨n0, 3, none⟩ (.slice none 0 0)).setCell ⟨n0, 4, none⟩ (.slice none 0 0)).setCell ⟨n0, 5, none⟩ (.int .i64 0)).setCell ⟨n0, 6, none⟩ (.int .i64 0)).setCell ⟨n0, 7, none⟩ (.int .i64 0)) n0 33 #[.slice none 0 0, .slice none 0 0, .slice none 0 0, .slice none 0 0, .slice none 0 0, .int .i64 0, .int .i64 0, .int .i64 0, .int .i64 0, .int .i64 0] := rr6.set 7 (.int .i64 0)
  have kk7 : Below n0 W7 ((((((((W7.setCell ⟨n0, 0, none⟩ (.slice none 0 0)).setCell ⟨n0, 1, none⟩ (.slice none 0 0)).setCell ⟨n0, 2, none⟩ (.slice none 0 0)).setCell ⟨n0, 3, none⟩ (.slice none 0 0)).setCell ⟨n0, 4, none⟩ (.slice none 0 0)).setCell ⟨n0, 5, none⟩ (.int .i64 0)).setCell ⟨n0, 6, none⟩ (.int .i64 0)).setCell ⟨n0, 7, none⟩ (.int .i64 0)) := kk6.setCell (p := ⟨n0, 7, none⟩) (Nat.le_refl _) (.int .i64 0)
  have rr8 : Row (((((((((W7.setCell ⟨n0, 0, none⟩ (.slice none 0 0)).setCell ⟨n0, 1, none⟩ (.slice none 0 0)).setCell ⟨n0, 2, none⟩ (.slice none 0 0)).setCell ⟨n0, 3, none⟩ (.slice none 0 0)).setCell ⟨n0, 4, none⟩ (.slice none 0 0)).setCell ⟨n0, 5, none⟩ (.int .i64 0)).setCell ⟨n0, 6, none⟩ (.int .i64 0)).setCell ⟨n0, 7, none⟩ (.int .i64 0)).setCell ⟨n0, 8, none⟩ (.int .i64 0)) n0 33 #[.slice none 0 0, .slice none 0 0, .slice none 0 0, .slice none 0 0, .slice none 0 0, .int .i64 0, .int .i64 0, .int .i64 0, .int .i64 0, .int .i64 0] := rr7.set 8 (.int .i64 0)
  have kk8 : Below n0 W7 (((((((((W7.setCell ⟨n0, 0, none⟩ (.slice none 0 0)).setCell ⟨n0, 1, none⟩ (.slice none 0 0)).setCell ⟨n0, 2, none⟩ (.slice none 0 0)).setCell ⟨n0, 3, none⟩ (.slice none 0 0)).setCell ⟨n0, 4, none⟩ (.slice none 0 0)).setCell ⟨n0, 5, none⟩ (.int .i64 0)).setCell ⟨n0, 6, none⟩ (.int .i64 0)).setCell ⟨n0, 7, none⟩ (.int .i64 0)).setCell ⟨n0, 8, none⟩ (.int .i64 0)) := kk7.setCell (p := ⟨n0, 8, none⟩) (Nat.le_refl _) (.int .i64 0)
  have rr9 : Row ((((((((((W7.setCell ⟨n0, 0, none⟩ (.slice none 0 0)).setCell ⟨n0, 1, none⟩ (.slice none 0 0)).setCell ⟨n0, 2, none⟩ (.slice none 0 0)).setCell ⟨n0, 3, none⟩ (.slice none 0 0)).setCell ⟨n0, 4, none⟩ (.slice none 0 0)).setCell ⟨n0, 5, none⟩ (.int .i64 0)).setCell ⟨n0, 6, none⟩ (.int .i64 0)).setCell ⟨n0, 7, none⟩ (.int .i64 0)).setCell ⟨n0, 8, none⟩ (.int .i64 0)).setCell ⟨n0, 9, none⟩ (.int .i64 0)) n0 33 #[.slice none 0 0, .slice none 0 0, .slice none 0 0, .slice none 0 0, .slice none 0 0, .int .i64 0, .int .i64 0, .int .i64 0, .int .i64 0, .int .i64 0] := rr8.set 9 (.int .i64 0)
  have kk9 : Below n0 W7 ((((((((((W7.setCell ⟨n0, 0, none⟩ (.slice none 0 0)).setCell ⟨n0, 1, none⟩ (.slice none 0 0)).setCell ⟨n0, 2, none⟩ (.slice none 0 0)).setCell ⟨n0, 3, none⟩ (.slice none 0 0)).setCell ⟨n0, 4, none⟩ (.slice none 0 0)).setCell ⟨n0, 5, none⟩ (.int .i64 0)).setCell ⟨n0, 6, none⟩ (.int .i64 0)).setCell ⟨n0, 7, none⟩ (.int .i64 0)).setCell ⟨n0, 8, none⟩ (.int .i64 0)).setCell ⟨n0, 9, none⟩ (.int .i64 0)) := kk8.setCell (p := ⟨n0, 9, none⟩) (Nat.le_refl _) (.int .i64 0)
  refine bodyPost_ret (results_cell_tmp_row rfl _ _ n0 33 #[.slice none 0 0, .slice none 0 0, .slice none 0 0, .slice none 0 0, .slice none 0 0, .int .i64 0, .int .i64 0, .int .i64 0, .int .i64 0, .int .i64 0] (0, 0) _ rfl rr9 Try.underlying33 rfl Try.size33) rfl ?_
  exact ⟨_, rfl, lay0 _ _, by rw [← HN0.out]; exact HB7.out.trans kk9⟩

set_option maxHeartbeats 4000000 in
theorem decode_ok (w : World) (v : Value) (q : List Nat) (h : Rd w w.heap.size v (bvals q)) (hq : ∀ x ∈ q, x < 256) (hl : q.length ≤ 4000) (h2 : 2 ≤ q.length) (heq : sumOf (q.take (q.length - 2)) = tailNum q) (hbl : okBL (body (q.take (q.length - 2))) = true) (l : List Bool) (hn : (tlay (tget 8 (tget 8 (body (q.take (q.length - 2)))).2).2).2 = some l) (hpos : l.length = 0) : Calls Try.prog 13 #[v] w (RetDec ((tlay (tget 8 (tget 8 (body (q.take (q.length - 2)))).2).2).1, 0) w) := by
  have HB0 := Lib.hid ((Below.refl w.heap.size w).alloc (Nat.le_refl _) (.cells #[.slice none 0 0, .slice none 0 0, .slice none 0 0, .slice none 0 0, .slice none 0 0, .int .i64 0, .int .i64 0, .int .i64 0, .int .i64 0, .int .i64 0] 33))
  have HZ := Lib.hid (Row.new w 33 #[.slice none 0 0, .slice none 0 0, .slice none 0 0, .slice none 0 0, .slice none 0 0, .int .i64 0, .int .i64 0, .int .i64 0, .int .i64 0, .int .i64 0])
  have HV : Hid (Rd (w.alloc (.cells #[.slice none 0 0, .slice none 0 0, .slice none 0 0, .slice none 0 0, .slice none 0 0, .int .i64 0, .int .i64 0, .int .i64 0, .int .i64 0, .int .i64 0] 33)) (w.alloc (.cells #[.slice none 0 0, .slice none 0 0, .slice none 0 0, .slice none 0 0, .slice none 0 0, .int .i64 0, .int .i64 0, .int .i64 0, .int .i64 0, .int .i64 0] 33)).heap.size v (bvals q)) := h.up HB0.out
  have HQ := Lib.hid hq
  clear h hq
  go_enter Try.func13, Try.ntmps13
  go_upto_region 1 with (fail)
  obtain ⟨n0, hn0⟩ : ∃ n, n = w.heap.size := ⟨_, rfl⟩
  rw [← hn0] at HZ HB0 ⊢
  have HN0 := Lib.hid hn0; clear hn0
  generalize w.alloc (.cells #[.slice none 0 0, .slice none 0 0, .slice none 0 0, .slice none 0 0, .slice none 0 0, .int .i64 0, .int .i64 0, .int .i64 0, .int .i64 0, .int .i64 0] 33) = W0 at *
  have HBL := Lib.hid hbl; have HNN := Lib.hid hn; clear hbl hn
  have HH := Lib.hid heq; clear heq
  go_wp2_with fail
  refine (open_ok W0 _ v q HV.out (Nat.le_refl _) HQ.out (by omega) h2 HH.out).mono ?_
  rintro e W1 ⟨v1, rfl, ho1, hb1⟩
  have HR1 := Lib.hid (Rd.of_own ho1)
  have HZ1 := Lib.hid (Below.row hb1 HZ.out HZ.out.lt)
  have HB1 := Lib.hid (HB0.out.trans (hb1.mono (by have := HZ.out.lt; omega)))
  have HOQ : Hid (∀ x ∈ q.take (q.length - 2), x < 256) := fun x hx => HQ.out x (List.mem_of_mem_take hx)
  have HOL : Hid ((q.take (q.length - 2)).length ≤ 4000) := by show _ ≤ _; rw [List.length_take]; omega
  generalize q.take (q.length - 2) = o at *
  clear ho1 hb1
  go_wp2_with fail
  refine (newReader_any W1 v1 o HR1.out (by have := HOL.out; omega)).mono ?_
  rintro e W2 ⟨g, rfl, hg, hr, hb2⟩
  have HS2 := Lib.hid (RS.of_reader hr HOL.out HOQ.out)
  have HZ2 := Lib.hid (Below.row hb2 HZ1.out HZ1.out.lt)
  have HB2 := Lib.hid (HB1.out.trans (hb2.mono (by have := HZ1.out.lt; omega)))
  have HG : Hid (n0 < g) := by have := HZ1.out.lt; show _ < _; omega
  clear hg hr hb2
  go_wp2_with fail
  refine (getLetters_any W2 _ g (body o) HS2.out).mono ?_
  rintro e W3 ⟨rfl, hs3, hk3⟩
  have HZ3 := Lib.hid (hk3.row HZ2.out (by have := HG.out; simp; omega))
  have HB3 := Lib.hid (HB2.out.trans (hk3.below (by have := HZ2.out.lt; omega) (by intro k hk; have := HG.out; simp at hk; omega)))
  clear hk3
  rw [HBL.out]
  have HS3 := Lib.hid (hs3 HBL.out)
  clear hs3
  go_wp2_with fail
  refine (getLayout_any W3 _ g _ HS3.out).mono ?_
  rintro e W4 ⟨v4, rfl, hv4, hs4, hk4⟩
  have HZ4 := Lib.hid (hk4.row HZ3.out (by have := HG.out; simp; omega))
  have HB4 := Lib.hid (HB3.out.trans (hk4.below (by have := HZ3.out.lt; omega) (by intro k hk; have := HG.out; simp at hk; omega)))
  clear hk4
  obtain ⟨vN, vS, vP, vQ, vR, hv4e, hF⟩ := hv4
  obtain ⟨A0, c0, rfl⟩ := hF.n.slice
  obtain ⟨A1, c1, rfl⟩ := hF.s.slice
  obtain ⟨A2, c2, rfl⟩ := hF.p.slice
  obtain ⟨A3, c3, rfl⟩ := hF.q.slice
  obtain ⟨A4, c4, rfl⟩ := hF.r.slice
  obtain ⟨L, hL⟩ : ∃ L, (tlay (tget 8 (tget 8 (body o)).2).2).1 = L := ⟨_, rfl⟩
  rw [hL] at hv4e hF
  subst hv4e
  have HL := Lib.hid hL; clear hL
  have HF := Lib.hid hF; clear hF
  generalize hk0 : L.nodes.length = k0 at *
  generalize hk1 : L.secs.length = k1 at *
  generalize hk2 : L.parts.length = k2 at *
  generalize hk3 : L.points.length = k3 at *
  generalize hk4 : L.routes.length = k4 at *
  generalize ht0 : L.speed = t0 at *
  generalize ht1 : L.mute = t1 at *
  generalize ht2 : L.wait = t2 at *
  generalize ht3 : L.cancel = t3 at *
  generalize ht4 : L.stay = t4 at *
  have HT : Hid (L.speed = t0 ∧ L.mute = t1 ∧ L.wait = t2 ∧ L.cancel = t3 ∧ L.stay = t4) := ⟨ht0, ht1, ht2, ht3, ht4⟩
  clear hk0 hk1 hk2 hk3 hk4 ht0 ht1 ht2 ht3 ht4
  have hb5 := (Below.refl W4.heap.size W4).alloc (Nat.le_refl _) (.cells #[.slice A0 k0 c0, .slice A1 k1 c1, .slice A2 k2 c2, .slice A3 k3 c3, .slice A4 k4 c4, .int .i64 t0, .int .i64 t1, .int .i64 t2, .int .i64 t3, .int .i64 t4] 33)
  have HS5 := Lib.hid (hs4.fresh hb5)
  have HZ5 := Lib.hid (HZ4.out.alloc (.cells #[.slice A0 k0 c0, .slice A1 k1 c1, .slice A2 k2 c2, .slice A3 k3 c3, .slice A4 k4 c4, .int .i64 t0, .int .i64 t1, .int .i64 t2, .int .i64 t3, .int .i64 t4] 33))
  have HB5 := Lib.hid (HB4.out.trans (hb5.mono (by have := HZ4.out.lt; omega)))
  have HN5 := Lib.hid (Row.new W4 33 #[.slice A0 k0 c0, .slice A1 k1 c1, .slice A2 k2 c2, .slice A3 k3 c3, .slice A4 k4 c4, .int .i64 t0, .int .i64 t1, .int .i64 t2, .int .i64 t3, .int .i64 t4])
  have HV5 := Lib.hid (HF.out.kept (KeptL.of_below (S := []) hb5) (by intro t _ k hk; simp at hk))
  have HLT : Hid (n0 < W4.heap.size) := HZ4.out.lt
  clear hs4 hb5
  go_upto_region 8 with (fail)
  obtain ⟨b7, hb7⟩ : ∃ n, n = W4.heap.size := ⟨_, rfl⟩
  rw [← hb7] at HN5 HLT ⊢
  clear hb7
  generalize W4.alloc (.cells #[.slice A0 k0 c0, .slice A1 k1 c1, .slice A2 k2 c2, .slice A3 k3 c3, .slice A4 k4 c4, .int .i64 t0, .int .i64 t1, .int .i64 t2, .int .i64 t3, .int .i64 t4] 33) = W5 at *
  go_wp2_with fail
  refine (ok_any W5 _ g _ HS5.out).mono ?_
  rintro e W6 ⟨rfl, rfl⟩
  rw [HNN.out] at HS5 ⊢
  go_wp2_with fail
  refine (left_any W5 _ g l HS5.out).mono ?_
  rintro e W7 ⟨rfl, m, hW7⟩
  rw [hpos]
  have hz : Row W7 n0 33 #[.slice none 0 0, .slice none 0 0, .slice none 0 0, .slice none 0 0, .slice none 0 0, .int .i64 0, .int .i64 0, .int .i64 0, .int .i64 0, .int .i64 0] := by rw [hW7]; exact HZ5.out
  have hy : Row W7 b7 33 #[.slice A0 k0 c0, .slice A1 k1 c1, .slice A2 k2 c2, .slice A3 k3 c3, .slice A4 k4 c4, .int .i64 t0, .int .i64 t1, .int .i64 t2, .int .i64 t3, .int .i64 t4] := by rw [hW7]; exact HN5.out
  have HB7 : Hid (Below n0 w W7) := by rw [hW7]; exact below_drewN HB5.out m
  have HV7 : Hid (Five W7 (.slice A0 k0 c0) (.slice A1 k1 c1) (.slice A2 k2 c2) (.slice A3 k3 c3) (.slice A4 k4 c4) L) := by rw [hW7]; exact HV5.out.kept (KeptL.of_below (S := []) (below_drewN (Below.refl _ _) m)) (by intro t _ k hk; simp at hk)
  have HLT2 := HLT.out
  clear hW7
  have q0 := hz.cell 0; have r0 := hz.frozen 0
  have q1 := hz.cell 1; have r1 := hz.frozen 1
  have q2 := hz.cell 2; have r2 := hz.frozen 2
  have q3 := hz.cell 3; have r3 := hz.frozen 3
  have q4 := hz.cell 4; have r4 := hz.frozen 4
  have q5 := hz.cell 5; have r5 := hz.frozen 5
  have q6 := hz.cell 6; have r6 := hz.frozen 6
  have q7 := hz.cell 7; have r7 := hz.frozen 7
  have q8 := hz.cell 8; have r8 := hz.frozen 8
  have q9 := hz.cell 9; have r9 := hz.frozen 9
  simp only [List.getElem?_toArray, List.getElem?_cons_zero, List.getElem?_cons_succ] at q0 q1 q2 q3 q4 q5 q6 q7 q8 q9
  have y0 := hy.cell 0
  have y1 := hy.cell 1
  have y2 := hy.cell 2
  have y3 := hy.cell 3
  have y4 := hy.cell 4
  have y5 := hy.cell 5
  have y6 := hy.cell 6
  have y7 := hy.cell 7
  have y8 := hy.cell 8
  have y9 := hy.cell 9
  simp only [List.getElem?_toArray, List.getElem?_cons_zero, List.getElem?_cons_succ] at y0 y1 y2 y3 y4 y5 y6 y7 y8 y9
  go_wp2_with fail
  have rr0 : Row (W7.setCell ⟨n0, 0, none⟩ (.slice A0 k0 c0)) n0 33 #[.slice A0 k0 c0, .slice none 0 0, .slice none 0 0, .slice none 0 0, .slice none 0 0, .int .i64 0, .int .i64 0, .int .i64 0, .int .i64 0, .int .i64 0] := hz.set 0 (.slice A0 k0 c0)
  have kk0 : Below n0 W7 (W7.setCell ⟨n0, 0, none⟩ (.slice A0 k0 c0)) := (Below.refl n0 W7).setCell (p := ⟨n0, 0, none⟩) (Nat.le_refl _) (.slice A0 k0 c0)
  have rr1 : Row ((W7.setCell ⟨n0, 0, none⟩ (.slice A0 k0 c0)).setCell ⟨n0, 1, none⟩ (.slice A1 k1 c1)) n0 33 #[.slice A0 k0 c0, .slice A1 k1 c1, .slice none 0 0, .slice none 0 0, .slice none 0 0, .int .i64 0, .int .i64 0, .int .i64 0, .int .i64 0, .int .i64 0] := rr0.set 1 (.slice A1 k1 c1)
  have kk1 : Below n0 W7 ((W7.setCell ⟨n0, 0, none⟩ (.slice A0 k0 c0)).setCell ⟨n0, 1, none⟩ (.slice A1 k1 c1)) := kk0.setCell (p := ⟨n0, 1, none⟩) (Nat.le_refl _) (.slice A1 k1 c1)
  have rr2 : Row (((W7.setCell ⟨n0, 0, none⟩ (.slice A0 k0 c0)).setCell ⟨n0, 1, none⟩ (.slice A1 k1 c1)).setCell ⟨n0, 2, none⟩ (.slice A2 k2 c2)) n0 33 #[.slice A0 k0 c0, .slice A1 k1 c1, .slice A2 k2 c2, .slice none 0 0, .slice none 0 0, .int .i64 0, .int .i64 0, .int .i64 0, .int .i64 0, .int .i64 0] := rr1.set 2 (.slice A2 k2 c2)
  have kk2 : Below n0 W7 (((W7.setCell ⟨n0, 0, none⟩ (.slice A0 k0 c0)).setCell ⟨n0, 1, none⟩ (.slice A1 k1 c1)).setCell ⟨n0, 2, none⟩ (.slice A2 k2 c2)) := kk1.setCell (p := ⟨n0, 2, none⟩) (Nat.le_refl _) (.slice A2 k2 c2)
  have rr3 : Row ((((W7.setCell ⟨n0, 0, none⟩ (.slice A0 k0 c0)).setCell ⟨n0, 1, none⟩ (.slice A1 k1 c1)).setCell ⟨n0, 2, none⟩ (.slice A2 k2 c2)).setCell ⟨n0, 3, none⟩ (.slice A3 k3 c3)) n0 33 #[.slice A0 k0 c0, .slice A1 k1 c1, .slice A2 k2 c2, .slice A3 k3 c3, .slice none 0 0, .int .i64 0, .int .i64 0, .int .i64 0, .int .i64 0, .int .i64 0] := rr2.set 3 (.slice A3 k3 c3)
  have kk3 : Below n0 W7 ((((W7.setCell ⟨n0, 0, none⟩ (.slice A0 k0 c0)).setCell ⟨n0, 1, none⟩ (.slice A1 k1 c1)).setCell ⟨n0, 2, none⟩ (.slice A2 k2 c2)).setCell ⟨n0, 3, none⟩ (.slice A3 k3 c3)) := kk2.setCell (p := ⟨n0, 3, none⟩) (Nat.le_refl _) (.slice A3 k3 c3)
  have rr4 : Row (((((W7.setCell ⟨n0, 0, none⟩ (.slice A0 k0 c0)).setCell ⟨n0, 1, none⟩ (.slice A1 k1 c1)).setCell ⟨n0, 2, none⟩ (.slice A2 k2 c2)).setCell ⟨n0, 3, none⟩ (.slice A3 k3 c3)).setCell ⟨n0, 4, none⟩ (.slice A4 k4 c4)) n0 33 #[.slice A0 k0 c0, .slice A1 k1 c1, .slice A2 k2 c2, .slice A3 k3 c3, .slice A4 k4 c4, .int .i64 0, .int .i64 0, .int .i64 0, .int .i64 0, .int .i64 0] := rr3.set 4 (.slice A4 k4 c4)
  have kk4 : Below n0 W7 (((((W7.setCell ⟨n0, 0, none⟩ (.slice A0 k0 c0)).setCell ⟨n0, 1, none⟩ (.slice A1 k1 c1)).setCell ⟨n0, 2, none⟩ (.slice A2 k2 c2)).setCell ⟨n0, 3, none⟩ (.slice A3 k3 c3)).setCell ⟨n0, 4, none⟩ (.slice A4 k4 c4)) := kk3.setCell (p := ⟨n0, 4, none⟩) (Nat.le_refl _) (.slice A4 k4 c4)
  have rr5 : Row ((((((W7.setCell ⟨n0, 0, none⟩ (.slice A0 k0 c0)).setCell ⟨n0, 1, none⟩ (.slice A1 k1 c1)).setCell ⟨n0, 2, none⟩ (.slice A2 k2 c2)).setCell ⟨n0, 3, none⟩ (.slice A3 k3 c3)).setCell ⟨n0, 4, none⟩ (.slice A4 k4 c4)).setCell ⟨n0, 5, none⟩ (.int .i64 t0)) n0 33 #[.slice A0 k0 c0, .slice A1 k1 c1, .slice A2 k2 c2, .slice A3 k3 c3, .slice A4 k4 c4, .int .i64 t0, .int .i64 0, .int .i64 0, .int .i64 0, .int .i64 0] := rr4.set 5 (.int .i64 t0)
  have kk5 : Below n0 W7 ((((((W7.setCell ⟨n0, 0, none⟩ (.slice A0 k0 c0)).setCell ⟨n0, 1, none⟩ (.slice A1 k1 c1)).setCell ⟨n0, 2, none⟩ (.slice A2 k2 c2)).setCell ⟨n0, 3, none⟩ (.slice A3 k3 c3)).setCell ⟨n0, 4, none⟩ (.slice A4 k4 c4)).setCell ⟨n0, 5, none⟩ (.int .i64 t0)) := kk4.setCell (p := ⟨n0, 5, none⟩) (Nat.le_refl _) (.int .i64 t0)
  have rr6 : Row (((((((W7.setCell ⟨n0, 0, none⟩ (.slice A0 k0 c0)).setCell ⟨n0, 1, none⟩ (.slice A1 k1 c1)).setCell ⟨n0, 2, none⟩ (.slice A2 k2 c2)).setCell ⟨n0, 3, none⟩ (.slice A3 k3 c3)).setCell ⟨n0, 4, none⟩ (.slice A4 k4 c4)).setCell ⟨n0, 5, none⟩ (.int .i64 t0)).setCell ⟨n0, 6, none⟩ (.int .i64 t1)) n0 33 #[.slice A0 k0 c0, .slice A1 k1 c1, .slice A2 k2 c2, .slice A3 k3 c3, .slice A4 k4 c4, .int .i64 t0, .int .i64 t1, .int .i64 0, .int .i64 0, .int .i64 0] := rr5.set 6 (.int .i64 t1)
  have kk6 : Below n0 W7 (((((((W7.setCell ⟨n0, 0, none⟩ (.slice A0 k0 c0)).setCell ⟨n0, 1, none⟩ (.slice A1 k1 c1)).setCell ⟨n0, 2, none⟩ (.slice A2 k2 c2)).setCell ⟨n0, 3, none⟩ (.slice A3 k3 c3)).setCell ⟨n0, 4, none⟩ (.slice A4 k4 c4)).setCell ⟨n0, 5, none⟩ (.int .i64 t0)).setCell ⟨n0, 6, none⟩ (.int .i64 t1)) := kk5.setCell (p := ⟨n0, 6, none⟩) (Nat.le_refl _) (.int .i64 t1)
  have rr7 : Row ((((((((W7.setCell ⟨n0, 0, none⟩ (.slice A0 k0 c0)).setCell ⟨n0, 1, none⟩ (.slice A1 k1 c1)).setCell ⟨n0, 2, none⟩ (.slice A2 k2 c2)).setCell ⟨n0, 3, none⟩ (.slice A3 k3 c3)).setCell ⟨n0, 4, none⟩ (.slice A4 k4 c4)).setCell ⟨n0, 5, none⟩ (.int .i64 t0)).setCell ⟨n0, 6, none⟩ (.int .i64 t1)).setCell ⟨n0, 7, none⟩ (.int .i64 t2)) n0 33 #[.slice A0 k0 c0, .slice A1 k1 c1, .slice A2 k2 c2, .slice A3 k3 c3, .slice A4 k4 c4, .int .i64 t0, .int .i64 t1, .int .i64 t2, .int .i64 0, .int .i64 0] := rr6.set 7 (.int .i64 t2)
  have kk7 : Below n0 W7 ((((((((W7.setCell ⟨n0, 0, none⟩ (.slice A0 k0 c0)).setCell ⟨n0, 1, none⟩ (.slice A1 k1 c1)).setCell ⟨n0, 2, none⟩ (.slice A2 k2 c2)).setCell ⟨n0, 3, none⟩ (.slice A3 k3 c3)).setCell ⟨n0, 4, none⟩ (.slice A4 k4 c4)).setCell ⟨n0, 5, none⟩ (.int .i64 t0)).setCell ⟨n0, 6, none⟩ (.int .i64 t1)).setCell ⟨n0, 7, none⟩ (.int .i64 t2)) := kk6.setCell (p := ⟨n0, 7, none⟩) (Nat.le_refl _) (.int .i64 t2)
  have rr8 : Row (((((((((W7.setCell ⟨n0, 0, none⟩ (.slice A0 k0 c0)).setCell ⟨n0, 1, none⟩ (.slice A1 k1 c1)).setCell ⟨n0, 2, none⟩ (.slice A2 k2 c2)).setCell ⟨n0, 3, none⟩ (.slice A3 k3 c3)).setCell ⟨n0, 4, none⟩ (.slice A4 k4 c4)).setCell ⟨n0, 5, none⟩ (.int .i64 t0)).setCell ⟨n0, 6, none⟩ (.int .i64 t1)).setCell ⟨n0, 7, none⟩ (.int .i64 t2)).setCell ⟨n0, 8, none⟩ (.int .i64 t3)) n0 33 #[.slice A0 k0 c0, .slice A1 k1 c1, .slice A2 k2 c2, .slice A3 k3 c3, .slice A4 k4 c4, .int .i64 t0, .int .i64 t1, .int .i64 t2, .int .i64 t3, .int .i64 0] := rr7.set 8 (.int .i64 t3)
  have kk8 : Below n0 W7 (((((((((W7.setCell ⟨n0, 0, none⟩ (.slice A0 k0 c0)).setCell ⟨n0, 1, none⟩ (.slice A1 k1 c1)).setCell ⟨n0, 2, none⟩ (.slice A2 k2 c2)).setCell ⟨n0, 3, none⟩ (.slice A3 k3 c3)).setCell ⟨n0, 4, none⟩ (.slice A4 k4 c4)).setCell ⟨n0, 5, none⟩ (.int .i64 t0)).setCell ⟨n0, 6, none⟩ (.int .i64 t1)).setCell ⟨n0, 7, none⟩ (.int .i64 t2)).setCell ⟨n0, 8, none⟩ (.int .i64 t3)) := kk7.setCell (p := ⟨n0, 8, none⟩) (Nat.le_refl _) (.int .i64 t3)
  have rr9 : Row ((((((((((W7.setCell ⟨n0, 0, none⟩ (.slice A0 k0 c0)).setCell ⟨n0, 1, none⟩ (.slice A1 k1 c1)).setCell ⟨n0, 2, none⟩ (.slice A2 k2 c2)).setCell ⟨n0, 3, none⟩ (.slice A3 k3 c3)).setCell ⟨n0, 4, none⟩ (.slice A4 k4 c4)).setCell ⟨n0, 5, none⟩ (.int .i64 t0)).setCell ⟨n0, 6, none⟩ (.int .i64 t1)).setCell ⟨n0, 7, none⟩ (.int .i64 t2)).setCell ⟨n0, 8, none⟩ (.int .i64 t3)).setCell ⟨n0, 9, none⟩ (.int .i64 t4)) n0 33 #[.slice A0 k0 c0, .slice A1 k1 c1, .slice A2 k2 c2, .slice A3 k3 c3, .slice A4 k4 c4, .int .i64 t0, .int .i64 t1, .int .i64 t2, .int .i64 t3, .int .i64 t4] := rr8.set 9 (.int .i64 t4)
  have kk9 : Below n0 W7 ((((((((((W7.setCell ⟨n0, 0, none⟩ (.slice A0 k0 c0)).setCell ⟨n0, 1, none⟩ (.slice A1 k1 c1)).setCell ⟨n0, 2, none⟩ (.slice A2 k2 c2)).setCell ⟨n0, 3, none⟩ (.slice A3 k3 c3)).setCell ⟨n0, 4, none⟩ (.slice A4 k4 c4)).setCell ⟨n0, 5, none⟩ (.int .i64 t0)).setCell ⟨n0, 6, none⟩ (.int .i64 t1)).setCell ⟨n0, 7, none⟩ (.int .i64 t2)).setCell ⟨n0, 8, none⟩ (.int .i64 t3)).setCell ⟨n0, 9, none⟩ (.int .i64 t4)) := kk8.setCell (p := ⟨n0, 9, none⟩) (Nat.le_refl _) (.int .i64 t4)
  refine bodyPost_ret (results_cell_tmp_row rfl _ _ n0 33 #[.slice A0 k0 c0, .slice A1 k1 c1, .slice A2 k2 c2, .slice A3 k3 c3, .slice A4 k4 c4, .int .i64 t0, .int .i64 t1, .int .i64 t2, .int .i64 t3, .int .i64 t4] (0, 0) _ rfl rr9 Try.underlying33 rfl Try.size33) rfl ?_
  refine ⟨_, rfl, ?_, by rw [← HN0.out]; exact HB7.out.trans kk9⟩
  have hkc : KeptL [n0] W7 _ := ⟨kk9.os, kk9.tape, kk9.output, kk9.size, fun k hk hn => by
    have e : ∀ j u W, (World.setCell W ⟨n0, j, none⟩ u).heap[k]? = W.heap[k]? := fun j u W => Below.heap_setCell W _ u k (by simpa using hn)
    simp only [e]⟩
  rw [HL.out]
  refine IsLay.v ⟨_, _, _, _, _, ?_, HV7.out.kept hkc (other_one hz)⟩
  rw [HT.out.1, HT.out.2.1, HT.out.2.2.1, HT.out.2.2.2.1, HT.out.2.2.2.2]

theorem decode_any (w : World) (v : Value) (q : List Nat) (h : Rd w w.heap.size v (bvals q)) (hq : ∀ x ∈ q, x < 256) (hl : q.length ≤ 4000) : Calls Try.prog 13 #[v] w (RetDec (dec q) w) := by
  unfold dec
  by_cases h2 : q.length < 2
  · rw [if_pos h2]; exact decode_short w v q h hq hl h2
  · rw [if_neg h2]
    by_cases hs : sumOf (q.take (q.length - 2)) = tailNum q
    · rw [if_neg (by simpa using hs)]
      cases hb : okBL (body (q.take (q.length - 2))) with
      | false => rw [if_pos rfl]; exact decode_form w v q h hq hl (by omega) hs hb
      | true =>
        rw [if_neg (by simp)]
        cases ht : (tlay (tget 8 (tget 8 (body (q.take (q.length - 2)))).2).2).2 with
        | none =>
          have e : fin (tlay (tget 8 (tget 8 (body (q.take (q.length - 2)))).2).2) = (L0, 4) := by unfold fin; rw [ht]
          rw [e]; exact decode_fail w v q h hq hl (by omega) hs hb ht
        | some l =>
          by_cases hp : 0 < l.length
          · have e : fin (tlay (tget 8 (tget 8 (body (q.take (q.length - 2)))).2).2) = (L0, 2) := by unfold fin; rw [ht]; simp only; rw [if_pos hp]
            rw [e]; exact decode_left w v q h hq hl (by omega) hs hb l ht hp
          · have e : fin (tlay (tget 8 (tget 8 (body (q.take (q.length - 2)))).2).2) = ((tlay (tget 8 (tget 8 (body (q.take (q.length - 2)))).2).2).1, 0) := by unfold fin; rw [ht]; simp only; rw [if_neg hp]
            rw [e]; exact decode_ok w v q h hq hl (by omega) hs hb l ht (by omega)
    · rw [if_pos (by simpa using hs)]; exact decode_bad w v q h hq hl (by omega) hs

end Go.Proofs.Ythpfhcelmddjlaa
