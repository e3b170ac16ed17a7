/- A list of numbers that came in; one list of numbers put behind another; what has ended, and the rest. -/
import Derived.Test.YtkhceigfmaajdaaT12
namespace Go.Proofs.Ytkhceigfmaajdaa
open Go.RowKit
set_option maxRecDepth 100000

theorem i64_in {n : Int} (h : (Lit.int .i64 n).wf = true) : -9223372036854775808 ≤ n ∧ n ≤ 9223372036854775807 := by
  simp only [Lit.wf, Bool.and_eq_true, decide_eq_true_eq] at h
  exact h

theorem arg64 {w : World} {a : Option Addr} {len cap : Nat} {zs : List Int} (h : (a = none ∧ len = 0 ∧ cap = 0 ∧ zs = []) ∨
    ∃ x, a = some x ∧ len ≤ cap ∧ cap ≤ maxLen ∧ zs.length = cap ∧ (∀ i, i < zs.length → w.cell? (x.add i) = some (.int .i64 (zs.getD i 0))) ∧ ∀ n ∈ zs, (Lit.int .i64 n).wf = true) :
    ∃ q : List Int, q.length = len ∧ Rd w w.heap.size (.slice a len cap) (ivals q) ∧ (∀ x ∈ q, -9223372036854775808 ≤ x ∧ x ≤ 9223372036854775807) ∧ len ≤ 9223372036854775807 := by
  rcases h with ⟨rfl, rfl, rfl, rfl⟩ | ⟨x, rfl, hl, hm, hz, hc, hwz⟩
  · exact ⟨[], rfl, Rd.empty _ _, by simp, by omega⟩
  · have hlen : (zs.take len).length = len := by simp; omega
    have hvl : (ivals (zs.take len)).length = len := by simp [ivals]; omega
    refine ⟨zs.take len, hlen, ⟨some x, cap, by rw [hvl], ⟨(fun h => by cases h), by rw [hvl]; exact hl⟩, fun hp => ?_⟩, fun y hy => i64_in (hwz y (List.mem_of_mem_take hy)), by unfold maxLen at hm; omega⟩
    rw [hvl] at hp
    obtain ⟨b, o, rfl, hc'⟩ := ints_at hc (by omega)
    refine ⟨b, o, rfl, cell_lt (hc' 0 (by omega)), fun j u hu => ?_⟩
    have hj : j < len := by have := (List.getElem?_eq_some_iff.1 hu).1; rw [hvl] at this; exact this
    rw [hc' j (by omega), ← hu]
    simp [ivals, List.getD, hj, show j < zs.length by omega]

theorem ivals_app (xs ys : List Int) : ivals xs ++ ivals ys = ivals (xs ++ ys) := by simp [ivals]
theorem ivals_one (xs : List Int) : ∀ u ∈ ivals xs, u.oneCell' = true := by
  intro u hu
  simp [ivals] at hu
  obtain ⟨x, _, rfl⟩ := hu
  rfl

theorem wpList_app_rd {P : Program} {w : World} {ops : Array Oper} {rest : List Oper} {o : Oper} {a : Act} {Q : Exit → Act → World → Prop} (hgd : o.guard = none) (s x : Operand) (t : TypeId)
    (ho : o.op = .call { callee := .builtin .append, args := #[s, x], argTypes := #[t, t] })
    (base : Nat) (e : TypeId) (i : TypeInfo) (z : Value) (ht : P.underlying t = some (.slice e)) (hi : P.info? e = some i) (hz : i.zero = some z)
    (hsize : i.size = 1) (hby : i.bytes = 8) (hzs : z.cells.size = 1)
    (v : Value) (n : Nat) (xs : List Int) (hs : a.eval s = v) (hown : w.ownsRow base e 1 v n (ivals xs))
    (y : Value) (ys : List Int) (hx : a.eval x = y) (hy : Rd w w.heap.size y (ivals ys)) (h63 : n + ys.length ≤ 1000000) (hbase : base ≤ w.heap.size)
    (h : ∀ v' w', w'.ownsRow base e 1 v' (n + ys.length) (ivals (xs ++ ys)) → w.grownBy w' v.ownBlock → wpList P ops Q rest (a.put o.dst v') w') : wpList P ops Q (o :: rest) a w := by
  have hy2 := hy
  obtain ⟨A, c, rfl, ⟨h0, hc⟩, hp⟩ := hy
  rw [ivals_length] at hx hc hp hy2
  cases A with
  | none =>
    have hl : ys.length = 0 := by
      rcases Nat.eq_zero_or_pos ys.length with e0 | e0
      · exact e0
      · obtain ⟨b, o', e1, _⟩ := hp e0; cases e1
    have hys : ys = [] := List.length_eq_zero_iff.1 hl
    subst hys
    have hc0 := h0 rfl
    subst hc0
    refine wpList_append_own_none hgd s x t ho base e i 1 ht hi v n (ivals xs) hs hown hx ?_
    refine h v w (by simpa using hown) ⟨rfl, rfl, rfl, Nat.le_refl _, fun _ _ _ => rfl⟩
  | some ad =>
    refine wpList_append_own w hgd s x t ho base e i z 1 8 ht hi hz hsize hby hzs (by decide) v n (ivals xs) hs hown ad ys.length c (ivals ys) hx (by rw [ivals_length]; omega) (fun j u hu => hy2.cells j u hu) (ivals_one ys) (by unfold maxLen; omega) (by omega) hbase ?_
    intro v' w' h1 h2 _
    rw [ivals_app] at h1
    exact h v' w' h1 h2

/-- What has ended by 'cut', and by the last tick of all. -/
structure Split (q : List Int) (cut : Int) (F R : List Int) : Prop where
  first : ∀ x ∈ F, ∃ j : Nat, x = (j : Int) ∧ ∃ h : j < q.length, q[j] ≤ cut
  rest : ∀ x ∈ R, ∃ j : Nat, x = (j : Int) ∧ ∃ h : j < q.length, ¬ q[j] ≤ cut
  sorted : R.Pairwise fun x y => q.getD x.toNat 0 ≤ q.getD y.toNat 0
  len : F.length + R.length = q.length
  all : (riseL (F ++ R)).length = q.length

theorem filter_perm (l : List (Int × Int)) (now : Int) : (endL l now ++ restL l now).Perm l := List.filter_append_perm _ l

theorem split_of {l : List (Int × Int)} {q : List Int} {cut : Int} (hg : Good l) (h : Upto l (fun j => q.getD j 0) q.length) : Split q cut ((endL l cut).map Prod.fst) ((restL l cut).map Prod.fst) := by
  have hp := filter_perm l cut
  have hl : ((endL l cut).map Prod.fst ++ (restL l cut).map Prod.fst).Perm (l.map Prod.fst) := by
    rw [← List.map_append]; exact hp.map _
  have hlen : ((endL l cut).map Prod.fst).length + ((restL l cut).map Prod.fst).length = q.length := by
    rw [← List.length_append, hl.length_eq, List.length_map, h.len]
  refine ⟨?_, ?_, ?_, hlen, ?_⟩
  · intro x hx
    obtain ⟨p, hp, rfl⟩ := List.mem_map.1 hx
    obtain ⟨h1, h2⟩ := List.mem_filter.1 hp
    obtain ⟨j, hj, rfl⟩ := (h.mem p).1 h1
    refine ⟨j, rfl, hj, ?_⟩
    simpa [List.getD, hj] using h2
  · intro x hx
    obtain ⟨p, hp, rfl⟩ := List.mem_map.1 hx
    obtain ⟨h1, h2⟩ := List.mem_filter.1 hp
    obtain ⟨j, hj, rfl⟩ := (h.mem p).1 h1
    refine ⟨j, rfl, hj, ?_⟩
    simpa [List.getD, hj] using h2
  · rw [List.pairwise_map]
    have hs : (restL l cut).Pairwise ltT := hg.sorted.filter _
    refine List.Pairwise.imp_of_mem ?_ hs
    intro a b ha hb hab
    obtain ⟨j, hj, rfl⟩ := (h.mem a).1 (List.mem_filter.1 ha).1
    obtain ⟨k, hk, rfl⟩ := (h.mem b).1 (List.mem_filter.1 hb).1
    unfold ltT at hab
    simp only [Int.toNat_natCast] at *
    omega
  · have hn : ((endL l cut).map Prod.fst ++ (restL l cut).map Prod.fst).Nodup := hl.nodup_iff.2 hg.ids
    rw [(riseL_len _).2 hn, List.length_append]; exact hlen

theorem end_all {l : List (Int × Int)} (h : Fit l) : endL l 9223372036854775807 = l ∧ restL l 9223372036854775807 = [] := by
  constructor
  · unfold endL
    rw [List.filter_eq_self]
    intro p hp
    exact decide_eq_true (h p hp).2
  · unfold restL
    rw [List.filter_eq_nil_iff]
    intro p hp
    have := (h p hp).2
    simpa using this

end Go.Proofs.Ytkhceigfmaajdaa
