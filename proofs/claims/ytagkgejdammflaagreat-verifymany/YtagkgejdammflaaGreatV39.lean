/- For VerifyMany: a layout that is made by and by; a row that grows in its list. -/
import Derived.Test.YtagkgejdammflaaGreatV38
namespace Go.Proofs.YtagkgejdammflaaGreat
open Go.RowKit Fl
set_option maxRecDepth 100000

/-- What a loop keeps that lets the routes grow: the layout's cell, the list and its rows one's own; what was ahead. -/
structure RoSt (W0 : World) (nL : Nat) (vN vS vP vQ vR : Value) (L : Lay) (rs : List (List Int)) (vs : List Value) (W : World) : Prop where
  bel : Below nL W0 W
  lt : nL < W.heap.size
  row : Row W nL 33 (layC vN vS vP vQ vR L)
  own : W.ownsRow (nL + 1) 42 1 vR rs.length vs
  len : vs.length = rs.length
  rows : ∀ i (h1 : i < vs.length) (h2 : i < rs.length), W.ownsRow (nL + 1) 3 1 vs[i] rs[i].length (ivals rs[i])
theorem RoSt.call {W0 : World} {nL : Nat} {vN vS vP vQ vR : Value} {L : Lay} {rs : List (List Int)} {vs : List Value} {W W' : World} (h : RoSt W0 nL vN vS vP vQ vR L rs vs W) (hb : Below W.heap.size W W') : RoSt W0 nL vN vS vP vQ vR L rs vs W' :=
  ⟨h.bel.trans (hb.mono (Nat.le_of_lt h.lt)), Nat.lt_of_lt_of_le h.lt hb.size, Below.row hb h.row h.lt, own_below h.own hb, h.len, fun i h1 h2 => own_below (h.rows i h1 h2) hb⟩
theorem RoSt.v {W0 : World} {nL : Nat} {vN vS vP vQ vR : Value} {L : Lay} {rs : List (List Int)} {vs : List Value} {W : World} (h : RoSt W0 nL vN vS vP vQ vR L rs vs W) {ps : List (Nat × Nat)} {vR0 : Value} (hd : LayData W0 nL vN vS vP vQ vR0 ps L) :
    LayV W W.heap.size (.agg (layC vN vS vP vQ vR L)) { L with routes := rs } := by
  have hd2 := hd.mono (Nat.le_of_lt h.lt) (fun p hp => h.bel.cell (p := p) hp)
  exact ⟨vN, vS, vP, vQ, vR, ps, rfl, ⟨hd2.n, hd2.f, hd2.s, hd2.p, hd2.q, ⟨vs, Rd.of_own h.own, h.len, fun i h1 h2 => Rd.of_own (h.rows i h1 h2)⟩⟩⟩
/-- A row is put behind the list. -/
theorem RoSt.push {W0 : World} {nL : Nat} {vN vS vP vQ vR : Value} {L : Lay} {rs : List (List Int)} {vs : List Value} {W : World} (h : RoSt W0 nL vN vS vP vQ vR L rs vs W) {x : Value} {r : List Int} (hx : W.ownsRow (nL + 1) 3 1 x r.length (ivals r)) {o : Obj} {v' : Value} {w' : World}
    (hown : w'.ownsRow (nL + 1) 42 1 v' (rs.length + 1) (vs ++ [x])) (hg : (W.alloc o).grownBy w' vR.ownBlock) : RoSt W0 nL vN vS vP vQ v' L (rs ++ [r]) (vs ++ [x]) (w'.setCell ⟨nL, 4, none⟩ v') := by
  have hba := (Below.refl W.heap.size W).alloc (Nat.le_refl _) o
  have hne : some nL ≠ vR.ownBlock := fun e => by have := (h.own.lt nL e.symm).1; omega
  have hne' : v'.ownBlock ≠ some nL := fun e => by have := (hown.lt nL e).1; omega
  have hrow : Row w' nL 33 (layC vN vS vP vQ vR L) := (h.row.alloc o).grown hg hne
  have hblk : ∀ k, k < nL → some k ≠ vR.ownBlock := fun k hk e => by have := (h.own.lt k e.symm).1; omega
  have hsz : W.heap.size ≤ (W.alloc o).heap.size := hba.size
  have hB1 : Below nL W w' := (hba.mono (Nat.le_of_lt h.lt)).trans ⟨hg.os, hg.tape, hg.output, hg.size, fun k hk => hg.block k (Nat.lt_of_lt_of_le (Nat.lt_trans hk h.lt) hsz) (hblk k hk)⟩
  have keep : ∀ {u : Value} {l : List Int}, W.ownsRow (nL + 1) 3 1 u l.length (ivals l) → (w'.setCell ⟨nL, 4, none⟩ v').ownsRow (nL + 1) 3 1 u l.length (ivals l) := by
    intro u l hu
    have h1 := own_below hu hba
    have h2 := h1.kept hg (own_apart h1 (own_below h.own hba) (by decide))
    exact own_far h2 (fun e => by have := (h2.lt nL e).1; omega) _
  refine ⟨h.bel.trans (hB1.setCell (Nat.le_refl _) _), ?_, ?_, ?_, by simp [h.len], ?_⟩
  · have := hg.size; have := h.lt; simp; omega
  · exact hrow.set 4 v'
  · rw [List.length_append]; exact own_far hown hne' _
  · intro i h1 h2
    rw [List.length_append] at h1
    simp only [List.length_cons, List.length_nil] at h1
    rcases Nat.lt_or_ge i vs.length with c | c
    · have e1 : (vs ++ [x])[i] = vs[i] := List.getElem_append_left c
      have c2 : i < rs.length := by have := h.len; omega
      have e2 : (rs ++ [r])[i] = rs[i] := List.getElem_append_left c2
      rw [e1, e2]
      exact keep (h.rows i c c2)
    · have hi : i = vs.length := by omega
      subst hi
      have e1 : (vs ++ [x])[vs.length] = x := by simp
      have e2 : (rs ++ [r])[vs.length]'h2 = r := by simp [h.len]
      rw [e1, e2]
      exact keep hx
theorem RoSt.none {W0 : World} {nL : Nat} {vN vS vP vQ vR : Value} {L : Lay} {W : World} (hb : Below nL W0 W) (hl : nL < W.heap.size) (hr : Row W nL 33 (layC vN vS vP vQ vR L)) (hp : vR = .slice none 0 0) : RoSt W0 nL vN vS vP vQ vR L [] [] W :=
  ⟨hb, hl, hr, by subst hp; exact World.ownsRow_nil _ _ _ _, rfl, fun i h1 => absurd h1 (by simp)⟩
theorem RoSt.row_one {W0 : World} {nL : Nat} {vN vS vP vQ vR : Value} {L : Lay} {rs : List (List Int)} {vs : List Value} {W : World} (h : RoSt W0 nL vN vS vP vQ vR L rs vs W) : ∃ A c, vR = .slice A rs.length c := own_slice h.own

/-- Rows, each in a block of its own. -/
def ApR (vs : List Value) : Prop := ∀ i j (hi : i < vs.length) (hj : j < vs.length), i ≠ j → vs[i].ownBlock = none ∨ vs[i].ownBlock ≠ vs[j].ownBlock

section
variable {w : World} {nL : Nat} {C : Array Value} {vN vS vP vQ vR : Value} {ps : List (Nat × Nat)} {vs us : List Value} {L : Lay} {W W' : World}

/-- A row of the parts has grown and is put back. -/
theorem OwL.row_put (h : OwL w nL C vN vS vP vQ vR ps vs us L W) (k g c : Nat) (hk : k < vs.length) (hP : vP = .slice (some ⟨g, 0, none⟩) L.parts.length c) {r r' : List Int} {v' : Value} (hX : W.ownsRow (nL + 1) 3 1 vs[k] r.length (ivals r)) (hg : W.grownBy W' vs[k].ownBlock)
    (hown : W'.ownsRow (nL + 1) 3 1 v' r'.length (ivals r')) (hap : ApR vs) (hus : L.routes = []) : OwL w nL C vN vS vP vQ vR ps (vs.set k v') us { L with parts := L.parts.set k r' } (W'.setCell ⟨g, k, none⟩ v') := by
  subst hP
  have hp' := h.p.kept hg (own_apart h.p hX (by decide))
  obtain ⟨hst, hgs⟩ := hp'.stored k v'
  have ho : ∀ {t : TypeId} {s n : Nat} {v : Value} {xs : List Value}, W.ownsRow (nL + 1) t s v n xs → t ≠ 3 → t ≠ 42 → (W'.setCell ⟨g, k, none⟩ v').ownsRow (nL + 1) t s v n xs := fun hv h3 h42 => by
    have h1 := hv.kept hg (own_apart hv hX h3)
    exact h1.kept hgs (own_apart h1 hp' h42)
  have hnP := own_nL h.p
  have hnX := own_nL hX
  have hlt1 : nL < W'.heap.size := Nat.lt_of_lt_of_le h.lt hg.size
  have hrow : Row (W'.setCell ⟨g, k, none⟩ v') nL 33 C := (h.row.grown hg hnX).grown hgs hnP
  have hR : vR.ownBlock = none ∨ vR.ownBlock ≠ (Value.slice (some ⟨g, 0, none⟩) L.parts.length c).ownBlock := by
    rcases h.ap with e | e
    · simp [Value.ownBlock] at e
    · exact Or.inr (Ne.symm e)
  have hrr : us = [] := by have := h.rr.1; rw [hus] at this; exact List.length_eq_zero_iff.1 this
  have h1r := h.r.kept hg (own_apart h.r hX (by decide))
  refine ⟨(grown_bel h.bel h.le hX hg).grown hgs (by have := h.bel.size; exact Nat.le_trans this hg.size) (fun q e => ?_), h.le, hrow, ho h.n (by decide) (by decide), h.f, ho h.s (by decide) (by decide), ?_, ⟨by simp [h.pr.1], fun i h1 h2 => ?_⟩, ho h.q (by decide) (by decide), h1r.kept hgs hR, ?_, h.ap⟩
  · have e2 : (Value.slice (some ⟨g, 0, none⟩) L.parts.length c).ownBlock = some q := e
    have := (h.p.lt q e2).1
    have := h.le
    omega
  · show (W'.setCell ⟨g, k, none⟩ v').ownsRow (nL + 1) 42 1 _ (L.parts.set k r').length _
    rw [List.length_set]; exact hst
  · rw [List.length_set] at h1
    have h2' : i < L.parts.length := by have := h.pr.1; omega
    show RowOk (W'.setCell ⟨g, k, none⟩ v') nL (vs.set k v')[i] (L.parts.set k r')[i]
    by_cases e : k = i
    · subst e
      rw [List.getElem_set_self, List.getElem_set_self]
      exact Or.inr (hown.kept hgs (own_apart hown hp' (by decide)))
    · rw [List.getElem_set_ne e, List.getElem_set_ne e]
      rcases h.pr.2 i h1 h2' with h3 | h3
      · exact Or.inl ((h3.low fun q hq => hg.block q (by have := h.lt; omega) (fun e => by have := (hX.lt q e.symm).1; omega)).low fun q hq => hgs.block q (by omega) (fun e => by have := (hp'.lt q e.symm).1; omega))
      · have h4 := h3.kept hg (hap i k h1 hk (Ne.symm e))
        exact Or.inr (h4.kept hgs (own_apart h4 hp' (by decide)))
  · rw [hus, hrr]; exact RowsK.nil _ _

/-- A layout with nothing in it. -/
theorem OwL.none (hb : Below w.heap.size w W) (hle : w.heap.size ≤ nL) (hr : Row W nL 33 C) (L : Lay) (h0 : L.nodes = []) (h1 : L.secs = []) (h2 : L.parts = []) (h3 : L.points = []) (h4 : L.routes = []) : OwL w nL C (.slice none 0 0) (.slice none 0 0) (.slice none 0 0) (.slice none 0 0) (.slice none 0 0) [] [] [] L W := by
  refine ⟨hb, hle, hr, ?_, ?_, ?_, ?_, ?_, ?_, ?_, ?_, Or.inl rfl⟩
  · rw [h0]; exact World.ownsRow_nil _ _ _ _
  · rw [h0]; exact ⟨rfl, fun i h => absurd h (by simp)⟩
  · rw [h1]; exact World.ownsRow_nil _ _ _ _
  · rw [h2]; exact World.ownsRow_nil _ _ _ _
  · rw [h2]; exact RowsK.nil _ _
  · rw [h3]; exact World.ownsRow_nil _ _ _ _
  · rw [h4]; exact World.ownsRow_nil _ _ _ _
  · rw [h4]; exact RowsK.nil _ _
theorem OwL.eq (h : OwL w nL C vN vS vP vQ vR ps vs us L W) {M : Lay} (e : L = M) : OwL w nL C vN vS vP vQ vR ps vs us M W := e ▸ h
end

theorem ApR.nil : ApR [] := fun i j hi => absurd hi (by simp)
theorem ApR.snoc {W : World} {nL : Nat} {vs : List Value} (h : ApR vs) (hr : ∀ i (hi : i < vs.length), ∃ n xs, W.ownsRow (nL + 1) 3 1 vs[i] n xs) {v : Value} (hv : v.ownBlock = some W.heap.size) : ApR (vs ++ [v]) := by
  intro i j hi hj hij
  rw [List.length_append] at hi hj
  simp only [List.length_cons, List.length_nil] at hi hj
  have old : ∀ k (hk : k < vs.length), (vs ++ [v])[k]'(by simp; omega) = vs[k] := fun k hk => List.getElem_append_left hk
  have new : (vs ++ [v])[vs.length]'(by simp) = v := by simp
  have far : ∀ k (hk : k < vs.length), vs[k].ownBlock = none ∨ vs[k].ownBlock ≠ v.ownBlock := fun k hk => by
    obtain ⟨n, xs, ho⟩ := hr k hk
    cases e : vs[k].ownBlock with
    | none => exact Or.inl rfl
    | some q =>
      refine Or.inr (fun e2 => ?_)
      rw [hv] at e2
      injection e2 with e2
      have := (ho.lt q e).2
      omega
  rcases Nat.lt_or_ge i vs.length with ci | ci
  · rw [old i ci]
    rcases Nat.lt_or_ge j vs.length with cj | cj
    · rw [old j cj]; exact h i j ci cj hij
    · obtain rfl : j = vs.length := by omega
      rw [new]; exact far i ci
  · obtain rfl : i = vs.length := by omega
    have cj : j < vs.length := by omega
    rw [new, old j cj, hv]
    refine Or.inr (fun e => ?_)
    rcases far j cj with e2 | e2
    · rw [e2] at e; cases e
    · exact e2 (by rw [hv]; exact e.symm)
theorem ApR.set {W : World} {nL : Nat} {vs : List Value} (h : ApR vs) (hr : ∀ i (hi : i < vs.length), ∃ n xs, W.ownsRow (nL + 1) 3 1 vs[i] n xs) (k : Nat) (hk : k < vs.length) {v : Value} (hv : v.ownBlock = vs[k].ownBlock ∨ v.ownBlock = some W.heap.size) : ApR (vs.set k v) := by
  intro i j hi hj hij
  rw [List.length_set] at hi hj
  have far : ∀ q (hq : q < vs.length), q ≠ k → vs[q].ownBlock = none ∨ vs[q].ownBlock ≠ v.ownBlock := fun q hq hqk => by
    rcases hv with e | e
    · rw [e]; exact h q k hq hk hqk
    · obtain ⟨n, xs, ho⟩ := hr q hq
      cases eq : vs[q].ownBlock with
      | none => exact Or.inl rfl
      | some b =>
        refine Or.inr (fun e2 => ?_)
        rw [e] at e2
        injection e2 with e2
        have := (ho.lt b eq).2
        omega
  by_cases ei : k = i
  · subst ei
    rw [List.getElem_set_self, List.getElem_set_ne hij]
    cases ev : v.ownBlock with
    | none => exact Or.inl rfl
    | some b =>
      refine Or.inr (fun e => ?_)
      rcases far j hj (Ne.symm hij) with e2 | e2
      · rw [e2] at e; cases e
      · exact e2 (by rw [ev]; exact e.symm)
  · rw [List.getElem_set_ne ei]
    by_cases ej : k = j
    · subst ej; rw [List.getElem_set_self]; exact far i hi (fun e => ei e.symm)
    · rw [List.getElem_set_ne ej]; exact h i j hi hj hij
end Go.Proofs.YtagkgejdammflaaGreat
