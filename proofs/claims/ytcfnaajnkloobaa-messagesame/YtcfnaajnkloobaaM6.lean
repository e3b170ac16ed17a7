/- Drawn regions whose last operation writes what was loaded ahead of it; a message stored into a result; what Decode keeps. -/
import Derived.OrdersHeld
import Derived.Test.YtcfnaajnkloobaaM4
import Derived.Test.YtcfnaajnkloobaaM5
import Derived.Laws.OwnMore
import Derived.StillTailTactics
import Derived.Deep.AppendLies
import Derived.Deep.RegionHeld
import Derived.Laws.Rows
import Derived.Laws.ResultCell
import Derived.Deep.DeepCutAuto
namespace Go.Proofs.Ytcfnaajnkloobaa
open Go

section

variable {P : Program} {ops : Array Oper} {Q : Exit → Act → World → Prop} {md : Region.Mode} {S : World → Prop} {t : Nat}

/-- Any order from here on; S holds behind every operation but number t. -/
def AnyBut (P : Program) (md : Region.Mode) (ops : Array Oper) (Q : Exit → Act → World → Prop) (S : World → Prop) (t : Nat) : Nat → Array Bool → Act → World → Prop
  | 0, L, a, w => Region.ready md ops L = [] ∧ Q .normal a w
  | n + 1, L, a, w => (Region.ready md ops L = [] → Q .normal a w) ∧
      ∀ j ∈ Region.ready md ops L, wpOp P ops Q j (fun a' w' => (j ≠ t → S w') ∧ AnyBut P md ops Q S t n (L.setIfInBounds j true) a' w') a w

theorem AnyBut.any : ∀ (n : Nat) (L : Array Bool) (a : Act) (w : World), AnyBut P md ops Q S t n L a w → wpAny P md ops Q n L a w
  | 0, _, _, _, h => h
  | n + 1, _, _, _, h => ⟨h.1, fun j hj => wpOp_mono (fun _ _ h' => AnyBut.any n _ _ _ h'.2) (h.2 j hj)⟩

/-- What is ready beside an unlisted i does not wait for i. -/
theorem ready_nowait {i j : Nat} {L : Array Bool} {oj : Oper} (hi : i ∈ Region.ready md ops L) (hj : j ∈ Region.ready md ops L) (ho : ops[j]? = some oj) :
    ∀ e ∈ oj.after, Region.binds md e = true → e.on ≠ i := by
  intro e he hb heq
  obtain ⟨_, o', ho', hall⟩ := mem_ready.1 hj
  obtain rfl : oj = o' := by rw [ho] at ho'; exact Option.some.inj ho'
  have h1 := hall e he hb
  have h0 := (mem_ready.1 hi).1
  rw [heq] at h1
  by_cases hlt : i < L.size
  · simp [hlt] at h0 h1; rw [h0] at h1; cases h1
  · simp [Array.getElem?_eq_none (Nat.le_of_not_lt hlt)] at h1

theorem AnyBut.first {i : Nat} {oi : Oper} {v : Value} (hi : ops[i]? = some oi) (hs : Region.noSelect ops = true)
    (hQ : ∀ c a w, Q (.panic c) (a.put oi.dst v) w → Q (.panic c) a w)
    (ht : ∀ o, ops[t]? = some o → ∃ e ∈ o.after, Region.binds md e = true ∧ e.on = i) (hit : i ≠ t) :
    ∀ (n : Nat) (L : Array Bool) (a : Act) (w : World),
      (∀ j oj, ops[j]? = some oj → j ≠ i → L.getD j true = false → (∀ e ∈ oj.after, Region.binds md e = true → e.on ≠ i) → oi.apart ops oj = true) →
      i ∈ Region.ready md ops L → YieldsIf P ops S oi v a → S w → AnyBut P md ops Q S t n (L.setIfInBounds i true) (a.put oi.dst v) w → AnyBut P md ops Q S t (n + 1) L a w := by
  have hsel := Region.noSelect_spec hs
  intro n
  induction n with
  | zero =>
    intro L a w hfree hr hy hS H
    refine ⟨fun h => (by rw [h] at hr; cases hr), fun j hj => ?_⟩
    by_cases e : j = i
    · subst e; exact hy.wpOp hi hS ⟨fun _ => hS, H⟩
    · have h0 := ready_mono hj e
      rw [H.1] at h0
      cases h0
  | succ n ih =>
    intro L a w hfree hr hy hS H
    refine ⟨fun h => (by rw [h] at hr; cases hr), fun j hj => ?_⟩
    by_cases e : j = i
    · subst e; exact hy.wpOp hi hS ⟨fun _ => hS, H⟩
    · obtain ⟨hun, oj, hoj, -⟩ := mem_ready.1 hj
      have hno := ready_nowait hr hj hoj
      have hjt : j ≠ t := by
        intro h
        subst h
        obtain ⟨d, hd, hb, hd2⟩ := ht oj hoj
        exact hno d hd hb hd2
      have h2 := wpOp_putIf hoj (hfree j oj hoj e hun hno) (fun cs b => hsel i oi cs b hi) (fun cs b => hsel j oj cs b hoj) hQ hy (H.2 j (ready_mono hj e))
      refine wpOp_mono (fun a' w' h3 => ⟨fun _ => h3.2.1 hjt, ih (L.setIfInBounds j true) a' w' (fun k ok hk hki hu hn => hfree k ok hk hki ?_ hn) (ready_mono hr (Ne.symm e)) h3.1 (h3.2.1 hjt) ?_⟩) h2
      · by_cases hjk : j = k
        · subst hjk; exact hun
        · rw [getD_set_ne true hjk] at hu; exact hu
      · rw [Array.setIfInBounds_comm _ _ e]
        exact h3.2.2

/-- Number i is taken first. -/
theorem AnyBut.take (i : Nat) {oi : Oper} {v : Value} {n : Nat} {L : Array Bool} {a : Act} {w : World} (hi : ops[i]? = some oi) (hs : Region.noSelect ops = true)
    (hf : Region.free md ops L i = true) (hr : (Region.ready md ops L).contains i = true)
    (ht : ((ops[t]?).all fun o => o.after.any fun e => Region.binds md e && e.on == i) = true) (hit : i ≠ t)
    (hQ : ∀ c a w, Q (.panic c) (a.put oi.dst v) w → Q (.panic c) a w) (hy : YieldsIf P ops S oi v a) (hS : S w)
    (h : AnyBut P md ops Q S t n (L.setIfInBounds i true) (a.put oi.dst v) w) : AnyBut P md ops Q S t (n + 1) L a w := by
  refine AnyBut.first hi hs hQ (fun o ho => ?_) hit n L a w (Region.free_spec hi hf) (by simpa using hr) hy hS h
  rw [ho] at ht
  have h2 : ∃ k, ∃ h : k < o.after.size, Region.binds md o.after[k] = true ∧ o.after[k].on = i := by simpa using ht
  obtain ⟨k, hk, hb⟩ := h2
  exact ⟨_, Array.getElem_mem hk, hb.1, hb.2⟩

/-- Number i alone may come up. -/
theorem AnyBut.one (i : Nat) {oi : Oper} {n : Nat} {L : Array Bool} {a : Act} {w : World} (hi : ops[i]? = some oi) (hr : Region.ready md ops L = [i]) (hw : Region.wanted oi (yielded ops a.tmps) = true)
    (h : oi.wp P a w (fun a' w' => (i ≠ t → S w') ∧ AnyBut P md ops Q S t n (L.setIfInBounds i true) a' w') Q) : AnyBut P md ops Q S t (n + 1) L a w :=
  ⟨fun h0 => absurd (hr.symm.trans h0) (by simp), fun j hj => (by
    rw [hr] at hj
    have e : j = i := by simpa using hj
    rw [e]
    unfold wpOp
    simp only [hi, hw, if_true]
    exact .inl h)⟩

theorem AnyBut.done {L : Array Bool} {a : Act} {w : World} (hr : Region.ready md ops L = []) (h : Q .normal a w) : AnyBut P md ops Q S t 0 L a w := ⟨hr, h⟩

theorem yields_of {o : Oper} {v : Value} {a : Act} (h1 : Region.wanted o (yielded ops a.tmps) = true) (h : ∀ w, S w → (execOp a.eval o).run P w = .ok (.value v) w) : YieldsIf P ops S o v a := .inl ⟨h1, h⟩

theorem AnyBut.region {id : Nat} {a : Act} {w : World} (S : World → Prop) (t : Nat) (hm : P.follows .mixedOrders = true)
    (h : AnyBut P .any ops Q S t ops.size (Array.replicate ops.size false) a { w with drawn := w.drawn + 1 }) : (Code.region id ops true).wp P Q a w :=
  wp_region_any hm (AnyBut.any _ _ _ _ h)

end

end Go.Proofs.Ytcfnaajnkloobaa

namespace Go.Proofs.Ytcfnaajnkloobaa
open Go.RowKit
set_option maxRecDepth 100000

theorem cell_alloc {w : World} {a : Addr} {v : Value} {o : Obj} (h : w.cell? a = some v) : (w.alloc o).cell? a = some v := by rw [World.cell?_alloc_some w a o (by rw [h]; rfl)]; exact h

theorem put7 {U : World} {n : Nat} {z0 z1 z2 z3 z4 z5 z6 : Value} (h : Row U n 29 #[z0, z1, z2, z3, z4, z5, z6]) (c0 c1 c2 c3 c4 c5 c6 : Value) : Row (((((((U.setCell ⟨n, 0, none⟩ c0).setCell ⟨n, 1, none⟩ c1).setCell ⟨n, 2, none⟩ c2).setCell ⟨n, 3, none⟩ c3).setCell ⟨n, 4, none⟩ c4).setCell ⟨n, 5, none⟩ c5).setCell ⟨n, 6, none⟩ c6) n 29 #[c0, c1, c2, c3, c4, c5, c6] ∧ Below n U (((((((U.setCell ⟨n, 0, none⟩ c0).setCell ⟨n, 1, none⟩ c1).setCell ⟨n, 2, none⟩ c2).setCell ⟨n, 3, none⟩ c3).setCell ⟨n, 4, none⟩ c4).setCell ⟨n, 5, none⟩ c5).setCell ⟨n, 6, none⟩ c6) ∧ KeptL [n] U (((((((U.setCell ⟨n, 0, none⟩ c0).setCell ⟨n, 1, none⟩ c1).setCell ⟨n, 2, none⟩ c2).setCell ⟨n, 3, none⟩ c3).setCell ⟨n, 4, none⟩ c4).setCell ⟨n, 5, none⟩ c5).setCell ⟨n, 6, none⟩ c6) := by
  have r0 : Row (U.setCell ⟨n, 0, none⟩ c0) n 29 #[c0, z1, z2, z3, z4, z5, z6] := h.set 0 c0
  have r1 : Row ((U.setCell ⟨n, 0, none⟩ c0).setCell ⟨n, 1, none⟩ c1) n 29 #[c0, c1, z2, z3, z4, z5, z6] := r0.set 1 c1
  have r2 : Row (((U.setCell ⟨n, 0, none⟩ c0).setCell ⟨n, 1, none⟩ c1).setCell ⟨n, 2, none⟩ c2) n 29 #[c0, c1, c2, z3, z4, z5, z6] := r1.set 2 c2
  have r3 : Row ((((U.setCell ⟨n, 0, none⟩ c0).setCell ⟨n, 1, none⟩ c1).setCell ⟨n, 2, none⟩ c2).setCell ⟨n, 3, none⟩ c3) n 29 #[c0, c1, c2, c3, z4, z5, z6] := r2.set 3 c3
  have r4 : Row (((((U.setCell ⟨n, 0, none⟩ c0).setCell ⟨n, 1, none⟩ c1).setCell ⟨n, 2, none⟩ c2).setCell ⟨n, 3, none⟩ c3).setCell ⟨n, 4, none⟩ c4) n 29 #[c0, c1, c2, c3, c4, z5, z6] := r3.set 4 c4
  have r5 : Row ((((((U.setCell ⟨n, 0, none⟩ c0).setCell ⟨n, 1, none⟩ c1).setCell ⟨n, 2, none⟩ c2).setCell ⟨n, 3, none⟩ c3).setCell ⟨n, 4, none⟩ c4).setCell ⟨n, 5, none⟩ c5) n 29 #[c0, c1, c2, c3, c4, c5, z6] := r4.set 5 c5
  have r6 : Row (((((((U.setCell ⟨n, 0, none⟩ c0).setCell ⟨n, 1, none⟩ c1).setCell ⟨n, 2, none⟩ c2).setCell ⟨n, 3, none⟩ c3).setCell ⟨n, 4, none⟩ c4).setCell ⟨n, 5, none⟩ c5).setCell ⟨n, 6, none⟩ c6) n 29 #[c0, c1, c2, c3, c4, c5, c6] := r5.set 6 c6
  have k0 : ∀ (W : World) (j : Nat) (u : Value), Below n U W → Below n U (W.setCell ⟨n, j, none⟩ u) := fun W j u hb => hb.setCell (p := ⟨n, j, none⟩) (Nat.le_refl _) u
  have k1 : Below n U (((((((U.setCell ⟨n, 0, none⟩ c0).setCell ⟨n, 1, none⟩ c1).setCell ⟨n, 2, none⟩ c2).setCell ⟨n, 3, none⟩ c3).setCell ⟨n, 4, none⟩ c4).setCell ⟨n, 5, none⟩ c5).setCell ⟨n, 6, none⟩ c6) := by
    repeat' apply k0
    exact Below.refl n U
  refine ⟨r6, k1, k1.os, k1.tape, k1.output, k1.size, fun k hk hn => ?_⟩
  have e : ∀ (W : World) (j : Nat) (u : Value), (World.setCell W ⟨n, j, none⟩ u).heap[k]? = W.heap[k]? := fun W j u => Below.heap_setCell W _ u k (by simpa using hn)
  simp only [e]

/-- What Decode hands back. -/
def RetDec (r : Msg × Int) (w : World) (e : Ending) (w' : World) : Prop := ∃ V, e = .returned (.tuple #[V, .int .i64 r.2]) ∧ MsgV w' w'.heap.size V r.1 ∧ Below w.heap.size w w'

theorem msg0 (w : World) (D : Nat) : MsgV w D (.agg #[.int .u8 0, .int .i64 0, .int .i64 0, .int .i64 0, .int .i64 0, .bool false, .slice none 0 0]) M0 := ⟨.slice none 0 0, rfl, ⟨none, 0, rfl, ⟨fun _ => rfl, Nat.le_refl _⟩, fun h => absurd h (by simp [M0, ivals])⟩⟩

/-- What Decode keeps: the result, the message, the reader. -/
structure DS (w W : World) (n0 B g : Nat) (C : Array Value) (s : St) : Prop where
  res : Row W n0 29 #[.int .u8 0, .int .i64 0, .int .i64 0, .int .i64 0, .int .i64 0, .bool false, .slice none 0 0]
  msg : Row W (n0 + 1) 29 C
  rs : RS W B g s
  below : Below n0 w W
  gn : n0 < g

theorem DS.ne {w W : World} {n0 B g : Nat} {C : Array Value} {s : St} (h : DS w W n0 B g C s) : n0 ≠ g ∧ n0 + 1 ≠ g := by
  obtain ⟨cs, hg⟩ := h.rs.row
  exact ⟨Row.ne h.res hg (by decide), Row.ne h.msg hg (by decide)⟩

theorem DS.get {w W W' : World} {n0 B g : Nat} {C : Array Value} {s s' : St} (h : DS w W n0 B g C s) (h1 : RS W' B g s') (k1 : KeptL [g] W W') : DS w W' n0 B g C s' := by
  have hn := h.ne
  refine ⟨k1.row h.res (by simpa using hn.1), k1.row h.msg (by simpa using hn.2), h1, h.below.trans (k1.below (Nat.le_of_lt h.res.lt) ?_), h.gn⟩
  intro k hk
  have := h.gn
  simp at hk; omega

theorem DS.set {w W : World} {n0 B g : Nat} {C : Array Value} {s : St} (h : DS w W n0 B g C s) (i : Nat) (u : Value) : DS w (W.setCell ⟨n0 + 1, i, none⟩ u) n0 B g (C.setIfInBounds i u) s :=
  ⟨h.res.far (show n0 ≠ n0 + 1 by omega) u, h.msg.set i u, h.rs.set h.msg (by decide) (by decide) u, h.below.setCell (p := ⟨n0 + 1, i, none⟩) (show n0 ≤ n0 + 1 by omega) u, h.gn⟩

theorem DS.drewN {w W : World} {n0 B g : Nat} {C : Array Value} {s : St} (h : DS w W n0 B g C s) (m : Nat) : DS w (W.drewN m) n0 B g C s :=
  ⟨h.res, h.msg, h.rs.fresh ⟨rfl, rfl, rfl, Nat.le_refl _, fun _ _ => rfl⟩, ⟨h.below.os, h.below.tape, h.below.output, h.below.size, h.below.block⟩, h.gn⟩

theorem ds_of (w : World) : Row ((w.alloc (.cells #[.int .u8 0, .int .i64 0, .int .i64 0, .int .i64 0, .int .i64 0, .bool false, .slice none 0 0] 29)).alloc (.cells #[.int .u8 0, .int .i64 0, .int .i64 0, .int .i64 0, .int .i64 0, .bool false, .slice none 0 0] 29)) w.heap.size 29 #[.int .u8 0, .int .i64 0, .int .i64 0, .int .i64 0, .int .i64 0, .bool false, .slice none 0 0] ∧ Row ((w.alloc (.cells #[.int .u8 0, .int .i64 0, .int .i64 0, .int .i64 0, .int .i64 0, .bool false, .slice none 0 0] 29)).alloc (.cells #[.int .u8 0, .int .i64 0, .int .i64 0, .int .i64 0, .int .i64 0, .bool false, .slice none 0 0] 29)) (w.heap.size + 1) 29 #[.int .u8 0, .int .i64 0, .int .i64 0, .int .i64 0, .int .i64 0, .bool false, .slice none 0 0] ∧ Below w.heap.size w ((w.alloc (.cells #[.int .u8 0, .int .i64 0, .int .i64 0, .int .i64 0, .int .i64 0, .bool false, .slice none 0 0] 29)).alloc (.cells #[.int .u8 0, .int .i64 0, .int .i64 0, .int .i64 0, .int .i64 0, .bool false, .slice none 0 0] 29)) := by
  have r2 := Row.new (w.alloc (.cells #[.int .u8 0, .int .i64 0, .int .i64 0, .int .i64 0, .int .i64 0, .bool false, .slice none 0 0] 29)) 29 #[.int .u8 0, .int .i64 0, .int .i64 0, .int .i64 0, .int .i64 0, .bool false, .slice none 0 0]
  rw [World.size_alloc] at r2
  exact ⟨(Row.new w 29 _).alloc _, r2, ((Below.refl _ _).alloc (Nat.le_refl _) _).alloc (by simp) _⟩

theorem trest_eq (k : Nat) (s : St) : trest k s = (⟨k, ((tget 6 s).1 : Int), ((tget 25 (tget 6 s).2).1 : Int), (trep k (tget 25 (tget 6 s).2).2).1.1, (trep k (tget 25 (tget 6 s).2).2).1.2.1, (trep k (tget 25 (tget 6 s).2).2).1.2.2, (ttrail k (trep k (tget 25 (tget 6 s).2).2).2).1⟩, (ttrail k (trep k (tget 25 (tget 6 s).2).2).2).2) := rfl
theorem trep_no {k : Nat} (h : k ≠ 3) (s : St) : trep k s = ((0, 0, false), s) := by unfold trep; rw [if_neg h]; rfl
theorem trep_yes (s : St) : trep 3 s = ((((tget 1 s).1 : Int), ((tget 14 (tget 1 s).2).1 : Int), decide ((tget 1 (tget 14 (tget 1 s).2).2).1 = 1)), (tget 1 (tget 14 (tget 1 s).2).2).2) := rfl
theorem ttrail_no {k : Nat} (h : hasT k = false) (s : St) : ttrail k s = ([], s) := by unfold ttrail; rw [if_neg (by simp [h])]; rfl
theorem ttrail_yes {k : Nat} (h : hasT k = true) (s : St) : ttrail k s = tmany tone (tget 4 s).1 (tget 4 s).2 := by unfold ttrail; rw [if_pos h]; rfl
theorem many_one (s : St) (i : Nat) : tmany tone (i + 1) s = ((tmany tone i s).1 ++ [((tget 6 (tmany tone i s).2).1 : Int)], (tget 6 (tmany tone i s).2).2) := rfl

theorem fin_none {r : Msg × St} (h : r.2 = none) : fin r = (M0, 4) := by unfold fin; rw [h]
theorem fin_bad {r : Msg × St} {l : List Bool} (h : r.2 = some l) (he : endB l = false) : fin r = (M0, 2) := by unfold fin; rw [h]; simp [he]
theorem fin_ok {r : Msg × St} {l : List Bool} (h : r.2 = some l) (he : endB l = true) : fin r = (r.1, 0) := by unfold fin; rw [h]; simp [he]

end Go.Proofs.Ytcfnaajnkloobaa
