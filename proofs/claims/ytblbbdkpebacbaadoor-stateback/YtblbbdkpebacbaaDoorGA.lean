/- Contracts: has, Len, endsOf. Contracts: endsOf. Contracts: Ends; a slice of ends put behind an owned one. Contracts: node. Contracts: Point (by IndexFunc and its closure), endAt, pointAt. -/
import Derived.Test.YtblbbdkpebacbaaDoorGMath
import Derived.LoopN
namespace Go.Proofs.YtblbbdkpebacbaaDoor
open Go.RowKit Fl
set_option maxRecDepth 100000

theorem Tryd.info90 : (Tryd.prog.info? 90).map (fun i => (i.zero, i.size, i.bytes)) = some (some (.agg #[.int .i64 0, .int .i64 0]), 2, 16) := by kernel_rfl

theorem Gr.secs {w : World} {D g : Nat} {vS vQ vP : Value} {L : Lay} (h : Gr w D g vS vQ vP L) : ∃ A c, vS = .slice A L.secs.length c := by
  obtain ⟨A, c, hv, _⟩ := h.s; exact ⟨A, c, hv⟩

theorem hasB_nat {ss : List (Int × Int × Int)} {s : Int} (h : hasB ss s = true) : ∃ i : Nat, s = (i : Int) ∧ i < ss.length := by
  unfold hasB at h
  simp at h
  exact ⟨s.toNat, by omega, by omega⟩

/-- A section's length. -/
def lenL (ss : List (Int × Int × Int)) (s : Int) : Int := if hasB ss s then (ss.getD s.toNat (0, 0, 0)).1 else 0

end Go.Proofs.YtblbbdkpebacbaaDoor

namespace Go.Proofs.YtblbbdkpebacbaaDoor
open Go.RowKit Fl
set_option maxRecDepth 100000

theorem index2_0 (x y : Int) (w : World) : Sem.run Tryd.prog (Instr.index 84 (.agg #[.int .i64 x, .int .i64 y]) (.int .i64 0)) w = .ok (.int .i64 x) w := by
  simp [Instr.index, go_sem]
theorem index2_1 (x y : Int) (w : World) : Sem.run Tryd.prog (Instr.index 84 (.agg #[.int .i64 x, .int .i64 y]) (.int .i64 1)) w = .ok (.int .i64 y) w := by
  simp [Instr.index, go_sem]

end Go.Proofs.YtblbbdkpebacbaaDoor

namespace Go.Proofs.YtblbbdkpebacbaaDoor
open Go.RowKit Fl
set_option maxRecDepth 100000

theorem grown_below {w w' : World} (h : Below w.heap.size w w') (r : Option Nat) : w.grownBy w' r := ⟨h.os, h.tape, h.output, h.size, fun k hk _ => h.block k hk⟩
theorem own_below {w w' : World} {B : Nat} {t : TypeId} {s n : Nat} {v : Value} {xs : List Value} (h : w.ownsRow B t s v n xs) (hb : Below w.heap.size w w') : w'.ownsRow B t s v n xs := by
  refine h.kept (grown_below hb none) ?_
  cases e : v.ownBlock with
  | none => exact Or.inl rfl
  | some k => exact Or.inr (by simp)

theorem wpList_app_prs {P : Program} {w : World} {ops : Array Oper} {rest : List Oper} {o : Oper} {a : Act} {Q : Exit → Act → World → Prop} (hgd : o.guard = none) (s x : Operand) (t : TypeId)
    (ho : o.op = .call { callee := .builtin .append, args := #[s, x], argTypes := #[t, t] })
    (base : Nat) (e : TypeId) (i : TypeInfo) (z : Value) (ht : P.underlying t = some (.slice e)) (hi : P.info? e = some i) (hz : i.zero = some z)
    (hsize : i.size = 2) (hby : i.bytes = 16) (hzs : z.cells.size = 2)
    (v : Value) (n : Nat) (xs : List (Int × Int)) (hs : a.eval s = v) (hown : w.ownsRow base e 2 v n (ecells xs))
    (y : Value) (ys : List (Int × Int)) (hx : a.eval x = y) (hy : Prs w w.heap.size y ys) (h63 : n + ys.length ≤ 1000000) (hbase : base ≤ w.heap.size)
    (h : ∀ v' w', w'.ownsRow base e 2 v' (n + ys.length) (ecells (xs ++ ys)) → w.grownBy w' v.ownBlock → wpList P ops Q rest (a.put o.dst v') w') : wpList P ops Q (o :: rest) a w := by
  have hy2 := hy
  obtain ⟨A, c, rfl, ⟨h0, hc⟩, hp⟩ := hy
  cases A with
  | none =>
    have hl : ys.length = 0 := by
      rcases Nat.eq_zero_or_pos ys.length with e0 | e0
      · exact e0
      · obtain ⟨b, o', cur, fr, e1, _⟩ := hp e0; cases e1
    have hys : ys = [] := List.length_eq_zero_iff.1 hl
    subst hys
    have hc0 := h0 rfl
    subst hc0
    refine wpList_append_own_none hgd s x t ho base e i 2 ht hi v n (ecells xs) hs hown hx ?_
    refine h v w (by simpa using hown) ⟨rfl, rfl, rfl, Nat.le_refl _, fun _ _ _ => rfl⟩
  | some ad =>
    refine wpList_append_own w hgd s x t ho base e i z 2 16 ht hi hz hsize hby hzs (by decide) v n (ecells xs) hs hown ad ys.length c (ecells ys) hx (ecells_len ys) ?_ (ecells_one ys) (by unfold maxLen; omega) (by omega) hbase ?_
    · intro j u hu
      have hpos : 0 < ys.length := by
        have := (List.getElem?_eq_some_iff.1 hu).1; rw [ecells_len] at this; omega
      obtain ⟨b, o', e1, _, hcell⟩ := hy2.cells hpos
      injection e1 with e1
      subst e1
      exact hcell j u hu
    · intro v' w' h1 h2 _
      rw [ecells_app] at h1
      exact h v' w' h1 h2

end Go.Proofs.YtblbbdkpebacbaaDoor

namespace Go.Proofs.YtblbbdkpebacbaaDoor
open Go.RowKit Fl
set_option maxRecDepth 100000

/-- The node of an end, if there is such an end. -/
def nodeL (ss : List (Int × Int × Int)) (e : Int × Int) : Option Int :=
  if hasB ss e.1 then (if e.2 = 0 then some (ss.getD e.1.toNat (0, 0, 0)).2.1 else if e.2 = 1 then some (ss.getD e.1.toNat (0, 0, 0)).2.2 else none) else none

def RetNode (o : Option Int) (w : World) (e : Ending) (w' : World) : Prop := e = .returned (.tuple #[.int .i64 (o.getD 0), .bool o.isSome]) ∧ Below w.heap.size w w'

end Go.Proofs.YtblbbdkpebacbaaDoor

namespace Go.Proofs.YtblbbdkpebacbaaDoor
open Go.RowKit Fl
set_option maxRecDepth 100000

/-- The first point at a node. -/
def pointL (ps : List (Int × Int × Int × Int)) (n : Int) : Int :=
  match ps.findIdx? (fun p => decide (p.1 = n)) with
  | some i => (i : Int)
  | none => -1

theorem pointL_at {ps : List (Int × Int × Int × Int)} {n : Int} {i : Nat} (hi : i < ps.length) (h : ps[i].1 = n) (hb : ∀ j (hj : j < ps.length), j < i → ps[j].1 ≠ n) : pointL ps n = (i : Int) := by
  unfold pointL
  have e : ps.findIdx? (fun p => decide (p.1 = n)) = some i := by
    rw [List.findIdx?_eq_some_iff_getElem]
    exact ⟨hi, by simpa using h, fun j hj => by simpa using hb j (by omega) hj⟩
  rw [e]
theorem pointL_none {ps : List (Int × Int × Int × Int)} {n : Int} (hb : ∀ j (hj : j < ps.length), ps[j].1 ≠ n) : pointL ps n = -1 := by
  unfold pointL
  have e : ps.findIdx? (fun p => decide (p.1 = n)) = none := by
    rw [List.findIdx?_eq_none_iff]
    intro x hx
    obtain ⟨j, hj, rfl⟩ := List.getElem_of_mem hx
    simpa using hb j hj
  rw [e]

end Go.Proofs.YtblbbdkpebacbaaDoor
