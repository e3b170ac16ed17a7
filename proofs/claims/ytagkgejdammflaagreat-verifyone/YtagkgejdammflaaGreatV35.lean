/- Appends: onto nothing, onto one's own, of elements of any size. -/
import Derived.Test.YtagkgejdammflaaGreatV34
import Derived.Laws.AppendOwnNone
import Derived.Maps.AppendAt
namespace Go.Proofs.YtagkgejdammflaaGreat
open Go.RowKit Fl
set_option maxRecDepth 100000

/-- What an append takes from. -/
structure Sr (w : World) (A : Option Addr) (m c sz : Nat) (ys : List Value) : Prop where
  len : ys.length = m * sz
  nil : A = none → c = 0
  cap : m ≤ c
  at_ : 0 < m → ∃ ad, A = some ad ∧ ∀ j u, ys[j]? = some u → w.cell? (ad.add j) = some u
  one : ∀ u ∈ ys, u.oneCell' = true

theorem wpList_app_src {P : Program} {w : World} {ops : Array Oper} {rest : List Oper} {o : Oper} {a : Act} {Q : Exit → Act → World → Prop} (hgd : o.guard = none) (s x : Operand) (t : TypeId)
    (ho : o.op = .call { callee := .builtin .append, args := #[s, x], argTypes := #[t, t] })
    (base : Nat) (e : TypeId) (i : TypeInfo) (z : Value) (sz by_ : Nat) (ht : P.underlying t = some (.slice e)) (hi : P.info? e = some i) (hz : i.zero = some z)
    (hsize : i.size = sz) (hby : i.bytes = by_) (hzs : z.cells.size = sz) (hsz : 0 < sz)
    (v : Value) (n : Nat) (xs : List Value) (hs : a.eval s = v) (hown : w.ownsRow base e sz v n xs)
    (A : Option Addr) (m c : Nat) (ys : List Value) (hx : a.eval x = .slice A m c) (hsrc : Sr w A m c sz ys) (h63 : n + m ≤ 1000000) (hb32 : by_ ≤ 100) (hbase : base ≤ w.heap.size)
    (h : ∀ v' w', w'.ownsRow base e sz v' (n + m) (xs ++ ys) → w.grownBy w' v.ownBlock → (v'.ownBlock = v.ownBlock ∨ v'.ownBlock = some w.heap.size) → wpList P ops Q rest (a.put o.dst v') w') : wpList P ops Q (o :: rest) a w := by
  obtain ⟨hl, h0, hc, hp, hone⟩ := hsrc
  have hbb : (n + m) * by_ ≤ 140737488355328 := by
    have := Nat.mul_le_mul h63 hb32
    omega
  cases A with
  | none =>
    have hc0 := h0 rfl
    subst hc0
    have hm0 : m = 0 := by omega
    subst hm0
    have hys : ys = [] := List.length_eq_zero_iff.1 (by omega)
    subst hys
    refine wpList_append_own_none hgd s x t ho base e i sz ht hi v n xs hs hown hx ?_
    exact h v w (by simpa using hown) ⟨rfl, rfl, rfl, Nat.le_refl _, fun _ _ _ => rfl⟩ (Or.inl rfl)
  | some ad =>
    refine wpList_append_own_at w hgd s x t ho base e i z sz by_ ht hi hz hsize hby hzs hsz v n xs hs hown ad m c ys hx hl ?_ hone (by unfold maxLen; omega) hbb hbase ?_
    · intro j u hu
      have hpos : 0 < m := by
        rcases Nat.eq_zero_or_pos m with e0 | e0
        · subst e0
          have := (List.getElem?_eq_some_iff.1 hu).1
          omega
        · exact e0
      obtain ⟨ad', e1, hcell⟩ := hp hpos
      injection e1 with e1
      subst e1
      exact hcell j u hu
    · intro v' w' h1 h2 _ h4
      exact h v' w' h1 h2 h4

theorem wpList_app_new {P : Program} {w : World} {ops : Array Oper} {rest : List Oper} {o : Oper} {a : Act} {Q : Exit → Act → World → Prop} (hgd : o.guard = none) (s x : Operand) (t : TypeId)
    (ho : o.op = .call { callee := .builtin .append, args := #[s, x], argTypes := #[t, t] })
    (e : TypeId) (i : TypeInfo) (z : Value) (sz by_ : Nat) (ht : P.underlying t = some (.slice e)) (hi : P.info? e = some i) (hz : i.zero = some z)
    (hsize : i.size = sz) (hby : i.bytes = by_) (hzs : z.cells.size = sz) (hsz : 0 < sz) (hs : a.eval s = .slice none 0 0)
    (A : Option Addr) (m c : Nat) (ys : List Value) (hx : a.eval x = .slice A m c) (hsrc : Sr w A m c sz ys) (h63 : m ≤ 1000000) (hb32 : by_ ≤ 100)
    (h : ∀ v' w', w'.ownsRow w.heap.size e sz v' m ys → Below w.heap.size w w' → wpList P ops Q rest (a.put o.dst v') w') : wpList P ops Q (o :: rest) a w := by
  refine wpList_app_src hgd s x t ho w.heap.size e i z sz by_ ht hi hz hsize hby hzs hsz (.slice none 0 0) 0 [] hs (World.ownsRow_nil _ _ _ _) A m c ys hx hsrc (by omega) hb32 (Nat.le_refl _) ?_
  intro v' w' h1 h2 _
  rw [Nat.zero_add, List.nil_append] at h1
  exact h v' w' h1 ⟨h2.os, h2.tape, h2.output, h2.size, fun k hk => h2.block k hk (by simp [Value.ownBlock])⟩

theorem Sr.rd {w : World} {D : Nat} {A : Option Addr} {n c : Nat} {xs : List Value} (h : Rd w D (.slice A n c) xs) (h1 : ∀ u ∈ xs, u.oneCell' = true) : Sr w A n c 1 xs := by
  have h2 := h
  obtain ⟨A', c', hv, ⟨h0, hc⟩, hx⟩ := h
  injection hv with e1 e2 e3
  subst e1 e2 e3
  refine ⟨by omega, h0, hc, fun hp => ?_, h1⟩
  obtain ⟨b, o, hA, _, hcell⟩ := hx hp
  subst hA
  exact ⟨⟨b, o, none⟩, rfl, fun j u hu => h2.cells j u hu⟩
theorem Sr.lit (w : World) (cs : Array Value) (t : TypeId) (m sz : Nat) (hl : cs.size = m * sz) (h1 : ∀ u ∈ cs.toList, u.oneCell' = true) : Sr (w.alloc (.cells cs t)) (some ⟨w.heap.size, 0, none⟩) m m sz cs.toList :=
  ⟨by simpa using hl, fun e => by (cases e), Nat.le_refl _, fun _ => ⟨⟨w.heap.size, 0, none⟩, rfl, fun j u hu => by
    have h := (Row.new w t cs).cell j
    have e : (⟨w.heap.size, 0, none⟩ : Addr).add j = ⟨w.heap.size, j, none⟩ := by simp [Addr.add]; intro h; omega
    rw [e, h]
    simpa using hu⟩, h1⟩
theorem ivals_one' (xs : List Int) : ∀ u ∈ ivals xs, u.oneCell' = true := by intro u hu; simp [ivals] at hu; obtain ⟨x, _, rfl⟩ := hu; rfl
theorem nvals_one (ps : List (Nat × Nat)) : ∀ u ∈ nvals ps, u.oneCell' = true := by intro u hu; simp [nvals] at hu; obtain ⟨x, y, _, rfl⟩ := hu; rfl
theorem rows_one {W : World} {vs : List Value} {rows : List (List Int)} {B : Nat} (hl : vs.length = rows.length) (h : ∀ i (h1 : i < vs.length) (h2 : i < rows.length), Rd W B vs[i] (ivals rows[i])) : ∀ u ∈ vs, u.oneCell' = true := by
  intro u hu
  obtain ⟨i, hi, rfl⟩ := List.getElem_of_mem hu
  obtain ⟨A, c, e, _⟩ := h i hi (by omega)
  rw [e]; rfl

theorem Tryz.info42q : (Tryz.prog.info? 42).map (fun i => (i.zero, i.size, i.bytes)) = some (some (.slice none 0 0), 1, 24) := by kernel_rfl
theorem Tryz.info36q : (Tryz.prog.info? 36).map (fun i => (i.zero, i.size, i.bytes)) = some (some (.complex .f64 0 0), 1, 16) := by kernel_rfl
theorem Tryz.info3q : (Tryz.prog.info? 3).map (fun i => (i.zero, i.size, i.bytes)) = some (some (.int .i64 0), 1, 8) := by kernel_rfl
theorem Tryz.info39q : (Tryz.prog.info? 39).map (fun i => (i.zero, i.size, i.bytes)) = some (some (.agg #[.int .i64 0, .int .i64 0, .int .i64 0]), 3, 24) := by kernel_rfl
theorem Tryz.info41q : (Tryz.prog.info? 41).map (fun i => (i.zero, i.size, i.bytes)) = some (some (.agg #[.int .i64 0, .int .i64 0, .int .i64 0, .int .i64 0]), 4, 32) := by kernel_rfl

/-- A list of one's own with numbers' rows behind. -/
theorem RowsO.own {W : World} {B b n : Nat} {v : Value} {vs : List Value} {rows : List (List Int)} (h : W.ownsRow B 42 1 v n vs) (hb : v.ownBlock ≠ some b) (hl : vs.length = rows.length) (hr : ∀ i (h1 : i < vs.length) (h2 : i < rows.length), RdO W b vs[i] (ivals rows[i])) : RowsO W b v rows :=
  ⟨vs, RdO.of_own h hb, hl, hr⟩
theorem snoc_rd {W : World} {b : Nat} {vs : List Value} {rows : List (List Int)} {u : Value} {r : List Int} (hl : vs.length = rows.length) (hr : ∀ i (h1 : i < vs.length) (h2 : i < rows.length), RdO W b vs[i] (ivals rows[i])) (hu : RdO W b u (ivals r)) :
    (vs ++ [u]).length = (rows ++ [r]).length ∧ ∀ i (h1 : i < (vs ++ [u]).length) (h2 : i < (rows ++ [r]).length), RdO W b (vs ++ [u])[i] (ivals (rows ++ [r])[i]) := by
  refine ⟨by simp [hl], fun i h1 h2 => ?_⟩
  rw [List.length_append] at h1
  simp only [List.length_cons, List.length_nil] at h1
  rcases Nat.lt_or_ge i vs.length with c | c
  · rw [List.getElem_append_left c, List.getElem_append_left (by omega)]; exact hr i c (by omega)
  · obtain rfl : i = vs.length := by omega
    rw [List.getElem_append_right (Nat.le_refl _), List.getElem_append_right (by omega)]
    simp only [hl, Nat.sub_self, List.getElem_cons_zero]
    exact hu
end Go.Proofs.YtagkgejdammflaaGreat
