/- For VerifyParts: lists of small numbers that came in; a list of rows of one's own that grows, in a layout's cell. -/
import Derived.Test.YtagkgejdammflaaGreatV35
namespace Go.Proofs.YtagkgejdammflaaGreat
open Go.RowKit Fl Go.Deep Go.WideShapes Go.ChangeShapes
set_option maxRecDepth 100000

def cvals8 (xs : List Int) : List Value := xs.map (Value.int .i8)
theorem cvals8_length (xs : List Int) : (cvals8 xs).length = xs.length := by simp [cvals8]
def IRows (w : World) (D : Nat) (v : Value) (rows : List (List Int)) : Prop :=
  ∃ vs : List Value, Rd w D v vs ∧ vs.length = rows.length ∧ ∀ i (h1 : i < vs.length) (h2 : i < rows.length), Rd w D vs[i] (cvals8 rows[i])
theorem IRows.row_at {w : World} {D : Nat} {A : Option Addr} {n c : Nat} {rows : List (List Int)} (h : IRows w D (.slice A n c) rows) (i : Nat) (hi : i < rows.length) :
    ∃ b o A' c', A = some ⟨b, o, none⟩ ∧ b < D ∧ w.cell? ⟨b, o + i, none⟩ = some (.slice A' rows[i].length c') ∧ Rd w D (.slice A' rows[i].length c') (cvals8 rows[i]) := by
  obtain ⟨vs, hv, hl, hr⟩ := h
  have hi2 : i < vs.length := by omega
  obtain ⟨A', c', e, hrest⟩ := hr i hi2 hi
  rw [cvals8_length] at e
  obtain ⟨b, o, hA, hb, hc⟩ := hv.at (i := i) (u := vs[i]) (by simp [hi2])
  rw [e] at hc
  exact ⟨b, o, A', c', hA, hb, hc, by rw [← e]; exact hr i hi2 hi⟩
theorem arg_i8 {w : World} {x : Addr} {len cap : Nat} {zs : List Int} (hl : len ≤ cap) (hz : zs.length = cap) (hc : ∀ i, i < zs.length → w.cell? (x.add i) = some (.int .i8 (zs.getD i 0))) (hwz : ∀ n ∈ zs, (Lit.int .i8 n).wf = true) :
    ∃ q : List Int, q.length = len ∧ (∀ y ∈ q, (-128 ≤ y ∧ y ≤ 127)) ∧ Rd w w.heap.size (.slice (some x) len cap) (cvals8 q) := by
  have hlen : (zs.take len).length = len := by simp; omega
  have hvl : (cvals8 (zs.take len)).length = len := by simp [cvals8]; omega
  refine ⟨zs.take len, hlen, fun y hy => ?_, ⟨some x, cap, by rw [hvl], ⟨(fun h => by cases h), by rw [hvl]; exact hl⟩, fun hp => ?_⟩⟩
  · have := hwz y (List.mem_of_mem_take hy)
    simp only [Lit.wf, Bool.and_eq_true, decide_eq_true_eq] at this
    rw [show IntKind.i8.min = -128 from by decide, show IntKind.i8.max = 127 from by decide] at this
    exact this
  · rw [hvl] at hp
    obtain ⟨b, o, rfl, hc'⟩ := ints_at hc (by omega)
    refine ⟨b, o, rfl, cell_lt (hc' 0 (by omega)), fun j u hu => ?_⟩
    have hj : j < len := by have := (List.getElem?_eq_some_iff.1 hu).1; rw [hvl] at this; exact this
    rw [hc' j (by omega), ← hu]
    simp [cvals8, List.getD, hj, show j < zs.length by omega]

/-- Lists of small numbers that came in. -/
theorem irows_of_trod {H : Type} {enc : TypeId × Value → H} {W : World} {base fuel : Nat} {held : Bool} {x : DataW H × List MemPlace} {c : Value}
    (hf : DataW.trod enc Tryz.prog W base (fun _ => true) held fuel 54 [c] = some x) :
    ∃ rows : List (List Int), IRows W W.heap.size c rows ∧ rows.length ≤ 9223372036854775807 ∧ (∀ r ∈ rows, r.length ≤ 9223372036854775807) ∧ ∀ r ∈ rows, ∀ y ∈ r, (-128 ≤ y ∧ y ≤ 127) := by
  rcases open_int_rows Tryz.underlying54 Tryz.underlying55 Tryz.underlying49 (by kernel_rfl) (by kernel_rfl) hf with ⟨hcs, _⟩ | ⟨a, len, cap, A, L, C, Z, hcs, _, hl, hm, _, hx⟩
  · simp only [List.cons.injEq, and_true] at hcs
    subst hcs
    exact ⟨[], ⟨[], Rd.empty _ _, rfl, fun i h => absurd h (by simp)⟩, by simp, by simp, by simp⟩
  · simp only [List.cons.injEq, and_true] at hcs
    subst hcs
    have each : ∀ r, r < len → ∃ q : List Int, q.length = L r ∧ (∀ y ∈ q, (-128 ≤ y ∧ y ≤ 127)) ∧ Rd W W.heap.size (.slice (A r) (L r) (C r)) (cvals8 q) := by
      intro r hr
      obtain ⟨_, h2, h3, h4, h5, h6, h7⟩ := hx r (by omega)
      cases eA : A r with
      | none =>
        have hC := h6 eA
        have hL : L r = 0 := by omega
        refine ⟨[], by simp [hL], by simp, ?_⟩
        rw [hL, hC]
        exact Rd.empty _ _
      | some a' =>
        exact arg_i8 h2 h4 (fun i hi => (h7 a' eA).2 i (by omega)) h5
    obtain ⟨Q, hQ⟩ := choose_lt each
    refine ⟨(List.range len).map Q, ⟨(List.range len).map fun r => .slice (A r) (L r) (C r), ?_, by simp, ?_⟩, ?_, ?_, ?_⟩
    · refine ⟨some a, cap, by simp, ⟨(fun h => by cases h), by simpa using hl⟩, fun hp => ?_⟩
      have hp' : 0 < len := by simpa using hp
      obtain ⟨b, off, spot⟩ := a
      have h0 := (hx 0 (by omega)).1
      have hspot : spot = none := by simpa [Addr.add] using World.cell?_spot h0
      subst hspot
      refine ⟨b, off, rfl, cell_lt h0, fun j u hu => ?_⟩
      have hj : j < len := by have := (List.getElem?_eq_some_iff.1 hu).1; simpa using this
      have hu2 : u = .slice (A j) (L j) (C j) := by simp [hj] at hu; exact hu.symm
      subst hu2
      have hh := (hx j (by omega)).1
      rw [show ((⟨b, off, none⟩ : Addr).add j) = ⟨b, off + j, none⟩ from by simp [Addr.add]] at hh
      exact hh
    · intro i h1 h2
      have hi : i < len := by simpa using h1
      simp only [List.getElem_map, List.getElem_range]
      exact (hQ i hi).2.2
    · simp only [List.length_map, List.length_range]
      unfold maxLen at hm; omega
    · intro r hr
      simp only [List.mem_map, List.mem_range] at hr
      obtain ⟨i, hi, rfl⟩ := hr
      obtain ⟨_, h2, h3, _⟩ := hx i (by omega)
      rw [(hQ i hi).1]
      unfold maxLen at h3; omega
    · intro r hr
      simp only [List.mem_map, List.mem_range] at hr
      obtain ⟨i, hi, rfl⟩ := hr
      exact (hQ i hi).2.1

/-- What a loop keeps that lets the parts grow: the layout's cell, the list and its rows one's own; what was ahead. -/
structure PaSt (W0 : World) (nL : Nat) (vN vS vP vQ vR : Value) (L : Lay) (rs : List (List Int)) (vs : List Value) (W : World) : Prop where
  bel : Below nL W0 W
  lt : nL < W.heap.size
  row : Row W nL 33 (layC vN vS vP vQ vR L)
  own : W.ownsRow (nL + 1) 42 1 vP rs.length vs
  len : vs.length = rs.length
  rows : ∀ i (h1 : i < vs.length) (h2 : i < rs.length), W.ownsRow (nL + 1) 3 1 vs[i] rs[i].length (ivals rs[i])
theorem PaSt.call {W0 : World} {nL : Nat} {vN vS vP vQ vR : Value} {L : Lay} {rs : List (List Int)} {vs : List Value} {W W' : World} (h : PaSt W0 nL vN vS vP vQ vR L rs vs W) (hb : Below W.heap.size W W') : PaSt W0 nL vN vS vP vQ vR L rs vs W' :=
  ⟨h.bel.trans (hb.mono (Nat.le_of_lt h.lt)), Nat.lt_of_lt_of_le h.lt hb.size, Below.row hb h.row h.lt, own_below h.own hb, h.len, fun i h1 h2 => own_below (h.rows i h1 h2) hb⟩
theorem PaSt.v {W0 : World} {nL : Nat} {vN vS vP vQ vR : Value} {L : Lay} {rs : List (List Int)} {vs : List Value} {W : World} (h : PaSt W0 nL vN vS vP vQ vR L rs vs W) {ps : List (Nat × Nat)} {vP0 : Value} (hd : LayData W0 nL vN vS vP0 vQ vR ps L) :
    LayV W W.heap.size (.agg (layC vN vS vP vQ vR L)) { L with parts := rs } := by
  have hd2 := hd.mono (Nat.le_of_lt h.lt) (fun p hp => h.bel.cell (p := p) hp)
  exact ⟨vN, vS, vP, vQ, vR, ps, rfl, ⟨hd2.n, hd2.f, hd2.s, ⟨vs, Rd.of_own h.own, h.len, fun i h1 h2 => Rd.of_own (h.rows i h1 h2)⟩, hd2.q, hd2.r⟩⟩
/-- A row is put behind the list. -/
theorem PaSt.push {W0 : World} {nL : Nat} {vN vS vP vQ vR : Value} {L : Lay} {rs : List (List Int)} {vs : List Value} {W : World} (h : PaSt W0 nL vN vS vP vQ vR L rs vs W) {x : Value} {r : List Int} (hx : W.ownsRow (nL + 1) 3 1 x r.length (ivals r)) {o : Obj} {v' : Value} {w' : World}
    (hown : w'.ownsRow (nL + 1) 42 1 v' (rs.length + 1) (vs ++ [x])) (hg : (W.alloc o).grownBy w' vP.ownBlock) : PaSt W0 nL vN vS v' vQ vR L (rs ++ [r]) (vs ++ [x]) (w'.setCell ⟨nL, 2, none⟩ v') := by
  have hba := (Below.refl W.heap.size W).alloc (Nat.le_refl _) o
  have hne : some nL ≠ vP.ownBlock := fun e => by have := (h.own.lt nL e.symm).1; omega
  have hne' : v'.ownBlock ≠ some nL := fun e => by have := (hown.lt nL e).1; omega
  have hrow : Row w' nL 33 (layC vN vS vP vQ vR L) := (h.row.alloc o).grown hg hne
  have hblk : ∀ k, k < nL → some k ≠ vP.ownBlock := fun k hk e => by have := (h.own.lt k e.symm).1; omega
  have hsz : W.heap.size ≤ (W.alloc o).heap.size := hba.size
  have hB1 : Below nL W w' := (hba.mono (Nat.le_of_lt h.lt)).trans ⟨hg.os, hg.tape, hg.output, hg.size, fun k hk => hg.block k (Nat.lt_of_lt_of_le (Nat.lt_trans hk h.lt) hsz) (hblk k hk)⟩
  have keep : ∀ {u : Value} {l : List Int}, W.ownsRow (nL + 1) 3 1 u l.length (ivals l) → (w'.setCell ⟨nL, 2, none⟩ v').ownsRow (nL + 1) 3 1 u l.length (ivals l) := by
    intro u l hu
    have h1 := own_below hu hba
    have h2 := h1.kept hg (own_apart h1 (own_below h.own hba) (by decide))
    exact own_far h2 (fun e => by have := (h2.lt nL e).1; omega) _
  refine ⟨h.bel.trans (hB1.setCell (Nat.le_refl _) _), ?_, ?_, ?_, by simp [h.len], ?_⟩
  · have := hg.size; have := h.lt; simp; omega
  · exact hrow.set 2 v'
  · rw [List.length_append]; exact own_far hown hne' _
  · intro i h1 h2
    rw [List.length_append] at h1
    simp only [List.length_cons, List.length_nil] at h1
    rcases Nat.lt_or_ge i vs.length with c | c
    · have e1 : (vs ++ [x])[i] = vs[i] := List.getElem_append_left c
      have c2 : i < rs.length := by have := h.len; omega
      have e2 : (rs ++ [r])[i] = rs[i] := List.getElem_append_left c2
      rw [e1, e2]
      exact keep (h.rows i c c2)
    · have hi : i = vs.length := by omega
      subst hi
      have e1 : (vs ++ [x])[vs.length] = x := by simp
      have e2 : (rs ++ [r])[vs.length]'h2 = r := by simp [h.len]
      rw [e1, e2]
      exact keep hx
theorem PaSt.none {W0 : World} {nL : Nat} {vN vS vP vQ vR : Value} {L : Lay} {W : World} (hb : Below nL W0 W) (hl : nL < W.heap.size) (hr : Row W nL 33 (layC vN vS vP vQ vR L)) (hp : vP = .slice none 0 0) : PaSt W0 nL vN vS vP vQ vR L [] [] W :=
  ⟨hb, hl, hr, by subst hp; exact World.ownsRow_nil _ _ _ _, rfl, fun i h1 => absurd h1 (by simp)⟩
theorem PaSt.row_one {W0 : World} {nL : Nat} {vN vS vP vQ vR : Value} {L : Lay} {rs : List (List Int)} {vs : List Value} {W : World} (h : PaSt W0 nL vN vS vP vQ vR L rs vs W) : ∃ A c, vP = .slice A rs.length c := own_slice h.own

/-- A row of numbers of one's own that grows by one. -/
theorem own_snoc {x : List Int} {n : Nat} (h : n < x.length) : ivals (x.take n) ++ [Value.int .i64 x[n]] = ivals (x.take (n + 1)) := by
  rw [List.take_succ_eq_append_getElem h]; simp only [ivals, List.map_append, List.map_cons, List.map_nil]
end Go.Proofs.YtagkgejdammflaaGreat
