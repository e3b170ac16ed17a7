/- For VerifyOne and VerifyMany: a layout whose lists are one's own; a cell of one written, one that grows. -/
import Derived.Test.YtagkgejdammflaaGreatV36
import Derived.Laws.OwnMore
namespace Go.Proofs.YtagkgejdammflaaGreat
open Go.RowKit Fl
set_option maxRecDepth 100000

theorem Rd.low {W W' : World} {D : Nat} {v : Value} {xs : List Value} (h : Rd W D v xs) (hk : ∀ k, k < D → W'.heap[k]? = W.heap[k]?) : Rd W' D v xs :=
  h.mono (Nat.le_refl _) (fun p hp => World.cell?_of_block (hk p.block hp))

/-- A row that is old, or one's own. -/
def RowOk (W : World) (nL : Nat) (v : Value) (r : List Int) : Prop := Rd W nL v (ivals r) ∨ W.ownsRow (nL + 1) 3 1 v r.length (ivals r)
theorem RowOk.call {W W' : World} {nL : Nat} {v : Value} {r : List Int} (h : RowOk W nL v r) (hl : nL < W.heap.size) (hb : Below W.heap.size W W') : RowOk W' nL v r := by
  rcases h with h | h
  · exact Or.inl (h.low fun k hk => hb.block k (by omega))
  · exact Or.inr (own_below h hb)
theorem RowOk.put {W : World} {nL : Nat} {v : Value} {r : List Int} (h : RowOk W nL v r) (i : Nat) (u : Value) : RowOk (W.setCell ⟨nL, i, none⟩ u) nL v r := by
  rcases h with h | h
  · exact Or.inl (h.low fun k hk => Below.heap_setCell W ⟨nL, i, none⟩ u k (by simpa using Nat.ne_of_lt hk))
  · exact Or.inr (ownsRow_setCell_below h (a := ⟨nL, i, none⟩) (Nat.lt_succ_self _) u)
theorem RowOk.grown {W W' : World} {nL : Nat} {v vX : Value} {r : List Int} {t : TypeId} {s n : Nat} {xs : List Value} (h : RowOk W nL v r) (hX : W.ownsRow (nL + 1) t s vX n xs) (ht : 3 ≠ t) (hl : nL < W.heap.size) (hg : W.grownBy W' vX.ownBlock) : RowOk W' nL v r := by
  rcases h with h | h
  · exact Or.inl (h.low fun k hk => hg.block k (by omega) (fun e => by have := (hX.lt k e.symm).1; omega))
  · exact Or.inr (h.kept hg (own_apart h hX ht))
theorem RowOk.rd {W : World} {nL : Nat} {v : Value} {r : List Int} (h : RowOk W nL v r) (hl : nL < W.heap.size) : Rd W W.heap.size v (ivals r) := by
  rcases h with h | h
  · exact h.mono (Nat.le_of_lt hl) (fun _ _ => rfl)
  · exact Rd.of_own h

/-- Rows in a list. -/
def RowsK (W : World) (nL : Nat) (vs : List Value) (rows : List (List Int)) : Prop := vs.length = rows.length ∧ ∀ i (h1 : i < vs.length) (h2 : i < rows.length), RowOk W nL vs[i] rows[i]
theorem RowsK.map {W W' : World} {nL : Nat} {vs : List Value} {rows : List (List Int)} (h : RowsK W nL vs rows) (hk : ∀ v r, RowOk W nL v r → RowOk W' nL v r) : RowsK W' nL vs rows := ⟨h.1, fun i h1 h2 => hk _ _ (h.2 i h1 h2)⟩
theorem RowsK.nil (W : World) (nL : Nat) : RowsK W nL [] [] := ⟨rfl, fun i h1 => absurd h1 (by simp)⟩
theorem RowsK.snoc {W : World} {nL : Nat} {vs : List Value} {rows : List (List Int)} (h : RowsK W nL vs rows) {v : Value} {r : List Int} (hv : RowOk W nL v r) : RowsK W nL (vs ++ [v]) (rows ++ [r]) := by
  refine ⟨by simp [h.1], fun i h1 h2 => ?_⟩
  rw [List.length_append] at h1
  simp only [List.length_cons, List.length_nil] at h1
  rcases Nat.lt_or_ge i vs.length with c | c
  · rw [List.getElem_append_left c, List.getElem_append_left (by have := h.1; omega)]; exact h.2 i c (by have := h.1; omega)
  · obtain rfl : i = vs.length := by omega
    rw [List.getElem_append_right (Nat.le_refl _), List.getElem_append_right (by have := h.1; omega)]
    simp only [h.1, Nat.sub_self, List.getElem_cons_zero]
    exact hv
theorem RowsK.set {W : World} {nL : Nat} {vs : List Value} {rows : List (List Int)} (h : RowsK W nL vs rows) (k : Nat) {v : Value} {r : List Int} (hv : RowOk W nL v r) : RowsK W nL (vs.set k v) (rows.set k r) := by
  refine ⟨by simp [h.1], fun i h1 h2 => ?_⟩
  rw [List.length_set] at h1 h2
  by_cases e : k = i
  · subst e; rw [List.getElem_set_self, List.getElem_set_self]; exact hv
  · rw [List.getElem_set_ne e, List.getElem_set_ne e]; exact h.2 i h1 h2
theorem RowsK.take {W : World} {nL : Nat} {vs : List Value} {rows : List (List Int)} (h : RowsK W nL vs rows) (m : Nat) : RowsK W nL (vs.take m) (rows.take m) := by
  refine ⟨by simp [h.1], fun i h1 h2 => ?_⟩
  rw [List.length_take] at h1 h2
  rw [List.getElem_take, List.getElem_take]; exact h.2 i (by omega) (by omega)
theorem RowsK.at {W : World} {nL n : Nat} {t : TypeId} {v : Value} {vs : List Value} {rows : List (List Int)} (h : RowsK W nL vs rows) (hv : W.ownsRow (nL + 1) t 1 v n vs) (hl : nL < W.heap.size) : RowsAt W W.heap.size v rows :=
  ⟨vs, Rd.of_own hv, h.1, fun i a b => (h.2 i a b).rd hl⟩

/-- A layout's cell, its lists one's own, each in a block of its own. -/
structure OwL (w : World) (nL : Nat) (C : Array Value) (vN vS vP vQ vR : Value) (ps : List (Nat × Nat)) (vs us : List Value) (L : Lay) (W : World) : Prop where
  bel : Below w.heap.size w W
  le : w.heap.size ≤ nL
  row : Row W nL 33 C
  n : W.ownsRow (nL + 1) 36 1 vN L.nodes.length (nvals ps)
  f : FlN ps L.nodes
  s : W.ownsRow (nL + 1) 39 3 vS L.secs.length (scells L.secs)
  p : W.ownsRow (nL + 1) 42 1 vP L.parts.length vs
  pr : RowsK W nL vs L.parts
  q : W.ownsRow (nL + 1) 41 4 vQ L.points.length (pcells L.points)
  r : W.ownsRow (nL + 1) 42 1 vR L.routes.length us
  rr : RowsK W nL us L.routes
  ap : vP.ownBlock = none ∨ vP.ownBlock ≠ vR.ownBlock

section
variable {w : World} {nL : Nat} {C : Array Value} {vN vS vP vQ vR : Value} {ps : List (Nat × Nat)} {vs us : List Value} {L : Lay} {W W' : World}

theorem OwL.lt (h : OwL w nL C vN vS vP vQ vR ps vs us L W) : nL < W.heap.size := h.row.lt
theorem OwL.data (h : OwL w nL C vN vS vP vQ vR ps vs us L W) : LayData W W.heap.size vN vS vP vQ vR ps L :=
  ⟨Rd.of_own h.n, h.f, Secs.of_own h.s, h.pr.at h.p h.lt, Pts.of_own h.q, h.rr.at h.r h.lt⟩
theorem OwL.fi (h : OwL w nL C vN vS vP vQ vR ps vs us L W) (hC : C = layC vN vS vP vQ vR L) : FiSt w nL C L W :=
  ⟨h.bel, h.row, by rw [hC]; exact ⟨vN, vS, vP, vQ, vR, ps, rfl, h.data⟩⟩
theorem OwL.call (h : OwL w nL C vN vS vP vQ vR ps vs us L W) (hb : Below W.heap.size W W') : OwL w nL C vN vS vP vQ vR ps vs us L W' :=
  ⟨h.bel.trans (hb.mono h.bel.size), h.le, Below.row hb h.row h.lt, own_below h.n hb, h.f, own_below h.s hb, own_below h.p hb, h.pr.map fun _ _ k => k.call h.lt hb, own_below h.q hb, own_below h.r hb, h.rr.map fun _ _ k => k.call h.lt hb, h.ap⟩
theorem OwL.put (h : OwL w nL C vN vS vP vQ vR ps vs us L W) (i : Nat) (u : Value) : OwL w nL (C.setIfInBounds i u) vN vS vP vQ vR ps vs us L (W.setCell ⟨nL, i, none⟩ u) :=
  ⟨h.bel.setCell h.le u, h.le, h.row.set i u, ownsRow_setCell_below h.n (a := ⟨nL, i, none⟩) (Nat.lt_succ_self _) u, h.f, ownsRow_setCell_below h.s (a := ⟨nL, i, none⟩) (Nat.lt_succ_self _) u, ownsRow_setCell_below h.p (a := ⟨nL, i, none⟩) (Nat.lt_succ_self _) u, h.pr.map fun _ _ k => k.put i u, ownsRow_setCell_below h.q (a := ⟨nL, i, none⟩) (Nat.lt_succ_self _) u, ownsRow_setCell_below h.r (a := ⟨nL, i, none⟩) (Nat.lt_succ_self _) u, h.rr.map fun _ _ k => k.put i u, h.ap⟩
theorem OwL.sc (h : OwL w nL C vN vS vP vQ vR ps vs us L W) (a b c d e : Int) : OwL w nL C vN vS vP vQ vR ps vs us { L with speed := a, mute := b, wait := c, cancel := d, stay := e } W :=
  ⟨h.bel, h.le, h.row, h.n, h.f, h.s, h.p, h.pr, h.q, h.r, h.rr, h.ap⟩

theorem grown_bel {nL : Nat} {t : TypeId} {s n : Nat} {vX : Value} {xs : List Value} (hb : Below w.heap.size w W) (hle : w.heap.size ≤ nL) (hX : W.ownsRow (nL + 1) t s vX n xs) (hg : W.grownBy W' vX.ownBlock) : Below w.heap.size w W' :=
  hb.grown hg hb.size (fun k e => by have := (hX.lt k e).1; omega)
theorem own_nL {nL : Nat} {t : TypeId} {s n : Nat} {vX : Value} {xs : List Value} (hX : W.ownsRow (nL + 1) t s vX n xs) : some nL ≠ vX.ownBlock := fun e => by have := (hX.lt nL e.symm).1; omega

/-- The nodes have turned. -/
theorem OwL.nodes (h : OwL w nL C vN vS vP vQ vR ps vs us L W) {v' : Value} {ps' : List (Nat × Nat)} {zs : List (Int × Int)} (hown : W'.ownsRow (nL + 1) 36 1 v' zs.length (nvals ps')) (hf : FlN ps' zs) (hg : W.grownBy W' vN.ownBlock) : OwL w nL C v' vS vP vQ vR ps' vs us { L with nodes := zs } W' :=
  ⟨grown_bel h.bel h.le h.n hg, h.le, h.row.grown hg (own_nL h.n), hown, hf, h.s.kept hg (own_apart h.s h.n (by decide)), h.p.kept hg (own_apart h.p h.n (by decide)), h.pr.map fun _ _ k => k.grown h.n (by decide) h.lt hg, h.q.kept hg (own_apart h.q h.n (by decide)), h.r.kept hg (own_apart h.r h.n (by decide)), h.rr.map fun _ _ k => k.grown h.n (by decide) h.lt hg, h.ap⟩
/-- The sections have turned. -/
theorem OwL.secs (h : OwL w nL C vN vS vP vQ vR ps vs us L W) {v' : Value} {ss : List (Int × Int × Int)} (hown : W'.ownsRow (nL + 1) 39 3 v' ss.length (scells ss)) (hg : W.grownBy W' vS.ownBlock) : OwL w nL C vN v' vP vQ vR ps vs us { L with secs := ss } W' :=
  ⟨grown_bel h.bel h.le h.s hg, h.le, h.row.grown hg (own_nL h.s), h.n.kept hg (own_apart h.n h.s (by decide)), h.f, hown, h.p.kept hg (own_apart h.p h.s (by decide)), h.pr.map fun _ _ k => k.grown h.s (by decide) h.lt hg, h.q.kept hg (own_apart h.q h.s (by decide)), h.r.kept hg (own_apart h.r h.s (by decide)), h.rr.map fun _ _ k => k.grown h.s (by decide) h.lt hg, h.ap⟩
/-- The points have turned. -/
theorem OwL.points (h : OwL w nL C vN vS vP vQ vR ps vs us L W) {v' : Value} {qs : List (Int × Int × Int × Int)} (hown : W'.ownsRow (nL + 1) 41 4 v' qs.length (pcells qs)) (hg : W.grownBy W' vQ.ownBlock) : OwL w nL C vN vS vP v' vR ps vs us { L with points := qs } W' :=
  ⟨grown_bel h.bel h.le h.q hg, h.le, h.row.grown hg (own_nL h.q), h.n.kept hg (own_apart h.n h.q (by decide)), h.f, h.s.kept hg (own_apart h.s h.q (by decide)), h.p.kept hg (own_apart h.p h.q (by decide)), h.pr.map fun _ _ k => k.grown h.q (by decide) h.lt hg, hown, h.r.kept hg (own_apart h.r h.q (by decide)), h.rr.map fun _ _ k => k.grown h.q (by decide) h.lt hg, h.ap⟩
/-- The parts' list has turned. -/
theorem OwL.parts (h : OwL w nL C vN vS vP vQ vR ps vs us L W) {v' : Value} {vs' : List Value} {rows : List (List Int)} (hown : W'.ownsRow (nL + 1) 42 1 v' rows.length vs') (hr : RowsK W nL vs' rows) (hg : W.grownBy W' vP.ownBlock) (hap : v'.ownBlock = none ∨ v'.ownBlock ≠ vR.ownBlock) : OwL w nL C vN vS v' vQ vR ps vs' us { L with parts := rows } W' := by
  have hR : vR.ownBlock = none ∨ vR.ownBlock ≠ vP.ownBlock := by
    rcases h.ap with e | e
    · rw [e]; cases vR.ownBlock
      · exact Or.inl rfl
      · exact Or.inr (by simp)
    · exact Or.inr (Ne.symm e)
  exact ⟨grown_bel h.bel h.le h.p hg, h.le, h.row.grown hg (own_nL h.p), h.n.kept hg (own_apart h.n h.p (by decide)), h.f, h.s.kept hg (own_apart h.s h.p (by decide)), hown, hr.map fun _ _ k => k.grown h.p (by decide) h.lt hg, h.q.kept hg (own_apart h.q h.p (by decide)), h.r.kept hg hR, h.rr.map fun _ _ k => k.grown h.p (by decide) h.lt hg, hap⟩
/-- The routes' list has turned. -/
theorem OwL.routes (h : OwL w nL C vN vS vP vQ vR ps vs us L W) {v' : Value} {us' : List Value} {rows : List (List Int)} (hown : W'.ownsRow (nL + 1) 42 1 v' rows.length us') (hr : RowsK W nL us' rows) (hg : W.grownBy W' vR.ownBlock) (hap : vP.ownBlock = none ∨ vP.ownBlock ≠ v'.ownBlock) : OwL w nL C vN vS vP vQ v' ps vs us' { L with routes := rows } W' :=
  ⟨grown_bel h.bel h.le h.r hg, h.le, h.row.grown hg (own_nL h.r), h.n.kept hg (own_apart h.n h.r (by decide)), h.f, h.s.kept hg (own_apart h.s h.r (by decide)), h.p.kept hg h.ap, h.pr.map fun _ _ k => k.grown h.r (by decide) h.lt hg, h.q.kept hg (own_apart h.q h.r (by decide)), hown, hr.map fun _ _ k => k.grown h.r (by decide) h.lt hg, hap⟩
/-- Where a list that grew lies. -/
theorem ap_of {v v' : Value} {o : Obj} {B n : Nat} {t : TypeId} {s : Nat} {xs : List Value} {vX : Value} (hX : W.ownsRow B t s vX n xs) (h0 : vX.ownBlock = none ∨ vX.ownBlock ≠ v.ownBlock) (hl : v'.ownBlock = v.ownBlock ∨ v'.ownBlock = some (W.alloc o).heap.size) : vX.ownBlock = none ∨ vX.ownBlock ≠ v'.ownBlock := by
  rcases hl with e | e
  · rw [e]; exact h0
  · rw [e]
    cases hx : vX.ownBlock with
    | none => exact Or.inl rfl
    | some k =>
      refine Or.inr (fun e2 => ?_)
      injection e2 with e2
      have := (hX.lt k hx).2
      simp at e2
      omega
end

theorem nvals_set (ps : List (Nat × Nat)) (k : Nat) (a b : Nat) : (nvals ps).set k (.complex .f64 a b) = nvals (ps.set k (a, b)) := by simp [nvals, List.map_set]
theorem FlN.set {ps : List (Nat × Nat)} {zs : List (Int × Int)} (h : FlN ps zs) (k : Nat) {a b : Nat} {z : Int × Int} (ha : Fl 0 a z.1) (hb : Fl 0 b z.2) : FlN (ps.set k (a, b)) (zs.set k z) := by
  refine ⟨by simp [h.1], fun i h1 h2 => ?_⟩
  rw [List.length_set] at h1 h2
  by_cases e : k = i
  · subst e; rw [List.getElem_set_self, List.getElem_set_self]; exact ⟨ha, hb⟩
  · rw [List.getElem_set_ne e, List.getElem_set_ne e]; exact h.2 i h1 h2
theorem scells_set (xs : List (Int × Int × Int)) : ∀ s (y : Int), (hs : s < xs.length) →
    (scells xs).set (s * 3) (.int .i64 y) = scells (xs.set s (y, xs[s].2.1, xs[s].2.2)) ∧ (scells xs).set (s * 3 + 1) (.int .i64 y) = scells (xs.set s (xs[s].1, y, xs[s].2.2)) ∧ (scells xs).set (s * 3 + 2) (.int .i64 y) = scells (xs.set s (xs[s].1, xs[s].2.1, y)) := by
  induction xs with
  | nil => intro s y hs; exact absurd hs (by simp)
  | cons a r ih =>
    intro s y hs
    have e : ∀ (b : Int × Int × Int) (l : List (Int × Int × Int)), scells (b :: l) = .int .i64 b.1 :: .int .i64 b.2.1 :: .int .i64 b.2.2 :: scells l := fun b l => by simp [scells]
    cases s with
    | zero => simp [e]
    | succ s =>
      have hs' : s < r.length := by simpa using hs
      obtain ⟨h1, h2, h3⟩ := ih s y hs'
      rw [show (s + 1) * 3 = s * 3 + 3 by omega]
      simp only [e, List.set_cons_succ, List.getElem_cons_succ, h1, h2, h3, and_self]
theorem scells_cell (xs : List (Int × Int × Int)) (s : Nat) (hs : s < xs.length) : s * 3 + 2 < xs.length * 3 := by omega
theorem pcells_cons (b : Int × Int × Int × Int) (l : List (Int × Int × Int × Int)) : pcells (b :: l) = .int .i64 b.1 :: .int .i64 b.2.1 :: .int .i64 b.2.2.1 :: .int .i64 b.2.2.2 :: pcells l := by simp [pcells]
theorem pcells_snoc (xs : List (Int × Int × Int × Int)) (x : Int × Int × Int × Int) : pcells xs ++ [.int .i64 x.1, .int .i64 x.2.1, .int .i64 x.2.2.1, .int .i64 x.2.2.2] = pcells (xs ++ [x]) := by simp [pcells]
theorem scells_one' (xs : List (Int × Int × Int)) : ∀ u ∈ scells xs, u.oneCell' = true := by
  intro u hu; simp only [scells, List.mem_flatMap] at hu; obtain ⟨x, _, h⟩ := hu; simp at h; rcases h with rfl | rfl | rfl <;> rfl

/-- A list of one's own that isn't empty lies in a block. -/
theorem own_at {W : World} {B : Nat} {t : TypeId} {s n : Nat} {v : Value} {xs : List Value} (h : W.ownsRow B t s v n xs) (hp : 0 < n) : ∃ g c, v = .slice (some ⟨g, 0, none⟩) n c ∧ B ≤ g := by
  rcases h.2 with ⟨_, h0⟩ | ⟨g, cap, cur, h0, hb, _⟩
  · omega
  · exact ⟨g, cap, h0, hb⟩

end Go.Proofs.YtagkgejdammflaaGreat
