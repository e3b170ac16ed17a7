/- A layout's slices that don't lie in a block: kept when that block turns. -/
import Derived.Test.YtagkgejdammflaaGreatV32
import Derived.Laws.OwnMore
import Derived.OpenShut
namespace Go.Proofs.YtagkgejdammflaaGreat
open Go.RowKit Fl
set_option maxRecDepth 100000

/-- No block but 'b' has turned. -/
def Kb (b : Nat) (W W' : World) : Prop := W.heap.size ≤ W'.heap.size ∧ ∀ k, k < W.heap.size → k ≠ b → W'.heap[k]? = W.heap[k]?
theorem Kb.of_below {b : Nat} {W W' : World} (h : Below W.heap.size W W') : Kb b W W' := ⟨h.size, fun k hk _ => h.block k hk⟩
theorem Kb.set (W : World) (b i : Nat) (u : Value) : Kb b W (W.setCell ⟨b, i, none⟩ u) := ⟨by simp, fun k _ hk => Below.heap_setCell W ⟨b, i, none⟩ u k hk⟩
theorem Kb.drewN (b : Nat) (W : World) (n : Nat) : Kb b W (W.drewN n) := ⟨Nat.le_refl _, fun _ _ _ => rfl⟩
theorem Kb.cell {b : Nat} {W W' : World} (h : Kb b W W') {p : Addr} (hp : p.block < W.heap.size) (hb : p.block ≠ b) : W'.cell? p = W.cell? p := World.cell?_of_block (h.2 p.block hp hb)
theorem Kb.trans {b : Nat} {W W' W'' : World} (h : Kb b W W') (k : Kb b W' W'') : Kb b W W'' := ⟨Nat.le_trans h.1 k.1, fun i hi hb => (k.2 i (Nat.lt_of_lt_of_le hi h.1) hb).trans (h.2 i hi hb)⟩

/-- A slice that isn't in that block. -/
def Off (b : Nat) (v : Value) : Prop := ∀ (a : Addr) (n c : Nat), v = .slice (some a) n c → a.block ≠ b
theorem Off.none (b n c : Nat) : Off b (.slice none n c) := fun a n' c' h => by injection h with h; cases h
theorem Off.of_own {W : World} {B b : Nat} {t : TypeId} {s n : Nat} {v : Value} {xs : List Value} (h : W.ownsRow B t s v n xs) (hb : v.ownBlock ≠ some b) : Off b v := by
  intro a n' c' hv
  rcases h.2 with ⟨h0, _⟩ | ⟨g, cap, cur, h0, _⟩
  · rw [h0] at hv; injection hv with hv; cases hv
  · rw [h0] at hv hb
    injection hv with hv; injection hv with hv
    subst hv
    intro e
    exact hb (by simp [Value.ownBlock]; exact e)
theorem Off.of_lt {W : World} {B b : Nat} {t : TypeId} {s n : Nat} {v : Value} {xs : List Value} (h : W.ownsRow B t s v n xs) (hb : b < B) : Off b v := by
  refine Off.of_own h (fun e => ?_)
  have := (h.lt b e).1
  omega

def RdO (W : World) (b : Nat) (v : Value) (xs : List Value) : Prop := Rd W W.heap.size v xs ∧ (0 < xs.length → Off b v)
theorem RdO.keep {W W' : World} {b : Nat} {v : Value} {xs : List Value} (h : RdO W b v xs) (hk : Kb b W W') : RdO W' b v xs := by
  obtain ⟨⟨A, c, hv, h0, hx⟩, ho⟩ := h
  refine ⟨⟨A, c, hv, h0, fun hp => ?_⟩, ho⟩
  obtain ⟨b', o, hA, hlt, hc⟩ := hx hp
  refine ⟨b', o, hA, Nat.lt_of_lt_of_le hlt hk.1, fun j u hu => ?_⟩
  have hne : b' ≠ b := ho hp ⟨b', o, none⟩ _ _ (by rw [hv, hA])
  rw [hk.cell (p := ⟨b', o + j, none⟩) hlt hne]; exact hc j u hu
theorem RdO.of_lt {W : World} {D b : Nat} {v : Value} {xs : List Value} (h : Rd W D v xs) (hD : D ≤ b) (hb : D ≤ W.heap.size) : RdO W b v xs := by
  refine ⟨h.mono hb (fun _ _ => rfl), fun hp a n c hv => ?_⟩
  obtain ⟨A, c', hv', _, hx⟩ := h
  obtain ⟨b', o, hA, hlt, _⟩ := hx hp
  rw [hv', hA] at hv
  injection hv with hv; injection hv with hv
  subst hv
  show b' ≠ b
  omega
theorem RdO.of_own {W : World} {B b n : Nat} {t : TypeId} {v : Value} {xs : List Value} (h : W.ownsRow B t 1 v n xs) (hb : v.ownBlock ≠ some b) : RdO W b v xs := ⟨Rd.of_own h, fun _ => Off.of_own h hb⟩
theorem RdO.empty (W : World) (b : Nat) : RdO W b (.slice none 0 0) [] := ⟨Rd.empty _ _, fun h => absurd h (by simp)⟩

def RowsO (W : World) (b : Nat) (v : Value) (rows : List (List Int)) : Prop :=
  ∃ vs : List Value, RdO W b v vs ∧ vs.length = rows.length ∧ ∀ i (h1 : i < vs.length) (h2 : i < rows.length), RdO W b vs[i] (ivals rows[i])
theorem RowsO.keep {W W' : World} {b : Nat} {v : Value} {rows : List (List Int)} (h : RowsO W b v rows) (hk : Kb b W W') : RowsO W' b v rows := by
  obtain ⟨vs, h1, h2, h3⟩ := h; exact ⟨vs, h1.keep hk, h2, fun i a c => (h3 i a c).keep hk⟩
theorem RowsO.at {W : World} {b : Nat} {v : Value} {rows : List (List Int)} (h : RowsO W b v rows) : RowsAt W W.heap.size v rows := by
  obtain ⟨vs, h1, h2, h3⟩ := h; exact ⟨vs, h1.1, h2, fun i a c => (h3 i a c).1⟩
theorem RowsO.of_lt {W : World} {D b : Nat} {v : Value} {rows : List (List Int)} (h : RowsAt W D v rows) (hD : D ≤ b) (hb : D ≤ W.heap.size) : RowsO W b v rows := by
  obtain ⟨vs, h1, h2, h3⟩ := h; exact ⟨vs, .of_lt h1 hD hb, h2, fun i a c => .of_lt (h3 i a c) hD hb⟩
theorem RowsO.empty (W : World) (b : Nat) : RowsO W b (.slice none 0 0) [] := ⟨[], RdO.empty _ _, rfl, fun i h1 => absurd h1 (by simp)⟩
theorem RowsO.take {W : World} {b : Nat} {A : Option Addr} {n c : Nat} {rows : List (List Int)} (h : RowsO W b (.slice A n c) rows) (m : Nat) (hm : m ≤ rows.length) : RowsO W b (.slice A m c) (rows.take m) := by
  obtain ⟨vs, h1, h2, h3⟩ := h
  refine ⟨vs.take m, ⟨h1.1.take m (by omega), fun hp a n' c' hv => ?_⟩, by simp [h2], fun i a d => ?_⟩
  · have hp' : 0 < vs.length := by simp at hp; omega
    injection hv with e1
    subst e1
    exact h1.2 hp' a _ _ rfl
  · have hi : i < vs.length := by simp at a; omega
    simpa using h3 i hi (by omega)

def SecsO (W : World) (b : Nat) (v : Value) (xs : List (Int × Int × Int)) : Prop := Secs W W.heap.size v xs ∧ (0 < xs.length → Off b v)
theorem SecsO.keep {W W' : World} {b : Nat} {v : Value} {xs : List (Int × Int × Int)} (h : SecsO W b v xs) (hk : Kb b W W') : SecsO W' b v xs := by
  obtain ⟨⟨A, c, hv, hx⟩, ho⟩ := h
  refine ⟨⟨A, c, hv, fun hp => ?_⟩, ho⟩
  obtain ⟨b', o, hA, hlt, hc⟩ := hx hp
  have hne : b' ≠ b := ho hp ⟨b', o, none⟩ _ _ (by rw [hv, hA])
  refine ⟨b', o, hA, Nat.lt_of_lt_of_le hlt hk.1, fun j hj => ?_⟩
  rw [hk.cell (p := ⟨b', o + j * 3, none⟩) hlt hne, hk.cell (p := ⟨b', o + j * 3 + 1, none⟩) hlt hne, hk.cell (p := ⟨b', o + j * 3 + 2, none⟩) hlt hne]; exact hc j hj
theorem SecsO.of_lt {W : World} {D b : Nat} {v : Value} {xs : List (Int × Int × Int)} (h : Secs W D v xs) (hD : D ≤ b) (hb : D ≤ W.heap.size) : SecsO W b v xs := by
  refine ⟨h.mono hb (fun _ _ => rfl), fun hp a n c hv => ?_⟩
  obtain ⟨A, c', hv', hx⟩ := h
  obtain ⟨b', o, hA, hlt, _⟩ := hx hp
  rw [hv', hA] at hv
  injection hv with hv; injection hv with hv
  subst hv
  show b' ≠ b
  omega
def PtsO (W : World) (b : Nat) (v : Value) (xs : List (Int × Int × Int × Int)) : Prop := Pts W W.heap.size v xs ∧ (0 < xs.length → Off b v)
theorem PtsO.keep {W W' : World} {b : Nat} {v : Value} {xs : List (Int × Int × Int × Int)} (h : PtsO W b v xs) (hk : Kb b W W') : PtsO W' b v xs := by
  obtain ⟨⟨A, c, hv, hx⟩, ho⟩ := h
  refine ⟨⟨A, c, hv, fun hp => ?_⟩, ho⟩
  obtain ⟨b', o, hA, hlt, hc⟩ := hx hp
  have hne : b' ≠ b := ho hp ⟨b', o, none⟩ _ _ (by rw [hv, hA])
  refine ⟨b', o, hA, Nat.lt_of_lt_of_le hlt hk.1, fun j hj => ?_⟩
  rw [hk.cell (p := ⟨b', o + j * 4, none⟩) hlt hne, hk.cell (p := ⟨b', o + j * 4 + 1, none⟩) hlt hne, hk.cell (p := ⟨b', o + j * 4 + 2, none⟩) hlt hne, hk.cell (p := ⟨b', o + j * 4 + 3, none⟩) hlt hne]; exact hc j hj
theorem PtsO.of_lt {W : World} {D b : Nat} {v : Value} {xs : List (Int × Int × Int × Int)} (h : Pts W D v xs) (hD : D ≤ b) (hb : D ≤ W.heap.size) : PtsO W b v xs := by
  refine ⟨h.mono hb (fun _ _ => rfl), fun hp a n c hv => ?_⟩
  obtain ⟨A, c', hv', hx⟩ := h
  obtain ⟨b', o, hA, hlt, _⟩ := hx hp
  rw [hv', hA] at hv
  injection hv with hv; injection hv with hv
  subst hv
  show b' ≠ b
  omega
def NodesO (W : World) (b : Nat) (v : Value) (zs : List (Int × Int)) : Prop := ∃ ps, RdO W b v (nvals ps) ∧ FlN ps zs
theorem NodesO.keep {W W' : World} {b : Nat} {v : Value} {zs : List (Int × Int)} (h : NodesO W b v zs) (hk : Kb b W W') : NodesO W' b v zs := by
  obtain ⟨ps, h1, h2⟩ := h; exact ⟨ps, h1.keep hk, h2⟩

/-- What five slices hold, none in that block. -/
structure LayO (W : World) (b : Nat) (vN vS vP vQ vR : Value) (L : Lay) : Prop where
  n : NodesO W b vN L.nodes
  s : SecsO W b vS L.secs
  p : RowsO W b vP L.parts
  q : PtsO W b vQ L.points
  r : RowsO W b vR L.routes
theorem LayO.keep {W W' : World} {b : Nat} {vN vS vP vQ vR : Value} {L : Lay} (h : LayO W b vN vS vP vQ vR L) (hk : Kb b W W') : LayO W' b vN vS vP vQ vR L := ⟨h.n.keep hk, h.s.keep hk, h.p.keep hk, h.q.keep hk, h.r.keep hk⟩
theorem LayO.data {W : World} {b : Nat} {vN vS vP vQ vR : Value} {L : Lay} (h : LayO W b vN vS vP vQ vR L) : ∃ ps, LayData W W.heap.size vN vS vP vQ vR ps L := by
  obtain ⟨ps, h1, h2⟩ := h.n
  exact ⟨ps, h1.1, h2, h.s.1, h.p.at, h.q.1, h.r.at⟩
theorem LayO.of_lt {W : World} {D b : Nat} {vN vS vP vQ vR : Value} {ps : List (Nat × Nat)} {L : Lay} (h : LayData W D vN vS vP vQ vR ps L) (hD : D ≤ b) (hb : D ≤ W.heap.size) : LayO W b vN vS vP vQ vR L :=
  ⟨⟨ps, .of_lt h.n hD hb, h.f⟩, .of_lt h.s hD hb, .of_lt h.p hD hb, .of_lt h.q hD hb, .of_lt h.r hD hb⟩

/-- A layout's cells. -/
def layC (vN vS vP vQ vR : Value) (L : Lay) : Array Value := #[vN, vS, vP, vQ, vR, .int .i64 L.speed, .int .i64 L.mute, .int .i64 L.wait, .int .i64 L.cancel, .int .i64 L.stay]

/-- What a law's walk keeps: the layout's cell, its slices not in it. -/
structure ESt (w : World) (nL : Nat) (vN vS vP vQ vR : Value) (L : Lay) (W : World) : Prop where
  bel : Below w.heap.size w W
  row : Row W nL 33 (layC vN vS vP vQ vR L)
  lay : LayO W nL vN vS vP vQ vR L
  le : w.heap.size ≤ nL
theorem ESt.call {w : World} {nL : Nat} {vN vS vP vQ vR : Value} {L : Lay} {W W' : World} (h : ESt w nL vN vS vP vQ vR L W) (hb : Below W.heap.size W W') : ESt w nL vN vS vP vQ vR L W' :=
  ⟨h.bel.trans (hb.mono h.bel.size), Below.row hb h.row h.row.lt, h.lay.keep (.of_below hb), h.le⟩
theorem ESt.drewN {w : World} {nL : Nat} {vN vS vP vQ vR : Value} {L : Lay} {W : World} (h : ESt w nL vN vS vP vQ vR L W) (n : Nat) : ESt w nL vN vS vP vQ vR L (W.drewN n) := h.call (Below.drewN (Below.refl _ _) n)
theorem ESt.v {w : World} {nL : Nat} {vN vS vP vQ vR : Value} {L : Lay} {W : World} (h : ESt w nL vN vS vP vQ vR L W) : LayV W W.heap.size (.agg (layC vN vS vP vQ vR L)) L := by
  obtain ⟨ps, hd⟩ := h.lay.data
  exact ⟨vN, vS, vP, vQ, vR, ps, rfl, hd⟩
/-- A cell of it stored. -/
theorem ESt.put {w : World} {nL : Nat} {vN vS vP vQ vR vN' vS' vP' vQ' vR' : Value} {L L' : Lay} {W : World} (h : ESt w nL vN vS vP vQ vR L W) (i : Nat) (u : Value)
    (hC : (layC vN vS vP vQ vR L).setIfInBounds i u = layC vN' vS' vP' vQ' vR' L') (hL : LayO W nL vN' vS' vP' vQ' vR' L') : ESt w nL vN' vS' vP' vQ' vR' L' (W.setCell ⟨nL, i, none⟩ u) :=
  ⟨h.bel.setCell h.le u, by rw [← hC]; exact h.row.set i u, hL.keep (.set W nL i u), h.le⟩
theorem ESt.of {w : World} {nL D : Nat} {vN vS vP vQ vR : Value} {ps : List (Nat × Nat)} {L : Lay} {W : World} (hb : Below w.heap.size w W) (hr : Row W nL 33 (layC vN vS vP vQ vR L)) (hd : LayData W D vN vS vP vQ vR ps L) (hD : D ≤ nL) (hle : w.heap.size ≤ nL) : ESt w nL vN vS vP vQ vR L W :=
  ⟨hb, hr, LayO.of_lt hd hD (Nat.le_of_lt (Nat.lt_of_le_of_lt hD hr.lt)), hle⟩

theorem arg_any {w : World} {a : Option Addr} {len cap : Nat} {zs : List Int} (h : (a = none ∧ len = 0 ∧ cap = 0 ∧ zs = []) ∨
    ∃ x, a = some x ∧ len ≤ cap ∧ cap ≤ maxLen ∧ zs.length = cap ∧ (∀ i, i < zs.length → w.cell? (x.add i) = some (.int .u8 (zs.getD i 0))) ∧ ∀ n ∈ zs, (Lit.int .u8 n).wf = true) :
    ∃ q : List Nat, q.length = len ∧ (∀ y ∈ q, y < 256) ∧ Rd w w.heap.size (.slice a len cap) (bvals q) := by
  rcases h with ⟨rfl, rfl, rfl, rfl⟩ | ⟨x, rfl, hl, _, hz, hc, hwz⟩
  · exact ⟨[], rfl, fun y hy => absurd hy (by simp), Rd.empty _ _⟩
  · exact arg_some hl hz hc hwz

/-- Numbers that came in. -/
theorem arg_ints {w : World} {a : Option Addr} {len cap : Nat} {zs : List Int} (h : (a = none ∧ len = 0 ∧ cap = 0 ∧ zs = []) ∨
    ∃ x, a = some x ∧ len ≤ cap ∧ cap ≤ maxLen ∧ zs.length = cap ∧ (∀ i, i < zs.length → w.cell? (x.add i) = some (.int .i64 (zs.getD i 0))) ∧ ∀ n ∈ zs, (Lit.int .i64 n).wf = true) :
    ∃ q : List Int, q.length = len ∧ Rd w w.heap.size (.slice a len cap) (ivals q) := by
  rcases h with ⟨rfl, rfl, rfl, rfl⟩ | ⟨x, rfl, hl, _, hz, hc, hwz⟩
  · exact ⟨[], rfl, Rd.empty _ _⟩
  · have hlen : (zs.take len).length = len := by simp; omega
    have hvl : (ivals (zs.take len)).length = len := by simp [ivals]; omega
    refine ⟨zs.take len, hlen, ⟨some x, cap, by rw [hvl], ⟨(fun h => by cases h), by rw [hvl]; exact hl⟩, fun hp => ?_⟩⟩
    rw [hvl] at hp
    obtain ⟨b, o, rfl, hc'⟩ := ints_at hc (by omega)
    refine ⟨b, o, rfl, cell_lt (hc' 0 (by omega)), fun j u hu => ?_⟩
    have hj : j < len := by have := (List.getElem?_eq_some_iff.1 hu).1; rw [hvl] at this; exact this
    rw [hc' j (by omega), ← hu]
    simp [ivals, List.getD, hj, show j < zs.length by omega]

end Go.Proofs.YtagkgejdammflaaGreat
