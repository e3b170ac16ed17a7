/- For VerifyOne: a number that came in; rows under a call. -/
import Derived.Test.YtagkgejdammflaaGreatV41
import Derived.Test.YtagkgejdammflaaGreatV26
namespace Go.Proofs.YtagkgejdammflaaGreat
open Go.RowKit Fl
set_option maxRecDepth 100000

theorem i64_bd {a : Int} (h : (Lit.int .i64 a).wf = true) : -9223372036854775808 ≤ a ∧ a ≤ 9223372036854775807 := by
  simp only [Lit.wf, Bool.and_eq_true, decide_eq_true_eq] at h
  rw [show IntKind.i64.min = -9223372036854775808 from by decide, show IntKind.i64.max = 9223372036854775807 from by decide] at h
  exact h
/-- Old rows stay. -/
def RowsD (W : World) (nL : Nat) (vs : List Value) (rows : List (List Int)) : Prop := vs.length = rows.length ∧ ∀ i (h1 : i < vs.length) (h2 : i < rows.length), Rd W nL vs[i] (ivals rows[i])
theorem RowsAt.d {W : World} {nL : Nat} {A : Option Addr} {n c : Nat} {rows : List (List Int)} (h : RowsAt W nL (.slice A n c) rows) : ∃ vs, Rd W nL (.slice A n c) vs ∧ RowsD W nL vs rows ∧ (∀ u ∈ vs, u.oneCell' = true) := by
  obtain ⟨vs, h1, h2, h3⟩ := h
  exact ⟨vs, h1, ⟨h2, h3⟩, rows_one h2 h3⟩
theorem RowsD.below {W W' : World} {nL : Nat} {vs : List Value} {rows : List (List Int)} (h : RowsD W nL vs rows) (hb : Below nL W W') : RowsK W' nL vs rows :=
  ⟨h.1, fun i a b => Or.inl ((h.2 i a b).low fun k hk => hb.block k hk)⟩
section
variable {w : World} {nL : Nat} {C : Array Value} {vN vS vP vQ vR : Value} {ps : List (Nat × Nat)} {vs us : List Value} {L : Lay} {W : World}
/-- A node, and another one in its place. -/
theorem OwL.node {g n c : Nat} (h : OwL w nL C (.slice (some ⟨g, 0, none⟩) n c) vS vP vQ vR ps vs us L W) (hn : L.nodes.length = n) (hz : ∀ z ∈ L.nodes, z.1.natAbs ≤ 1000000 ∧ z.2.natAbs ≤ 1000000) (k : Nat) (hk : k < n) :
    ∃ (x y : Nat) (zx zy : Int), W.cell? ⟨g, k, none⟩ = some (.complex .f64 x y) ∧ W.frozen? ⟨g, k, none⟩ = false ∧ Fl 0 x zx ∧ Fl 0 y zy ∧ zx.natAbs ≤ 1000000 ∧ zy.natAbs ≤ 1000000 := by
  have h0 : W.ownsRow (nL + 1) 36 1 (.slice (some ⟨g, 0, none⟩) n c) L.nodes.length (nvals ps) := h.n
  rw [hn] at h0
  have hkl : k < L.nodes.length := by omega
  have hkp : k < ps.length := by rw [h.f.1]; exact hkl
  have hz' := hz _ (List.getElem_mem hkl)
  refine ⟨ps[k].1, ps[k].2, L.nodes[k].1, L.nodes[k].2, ?_, h0.frozenAt k, (h.f.2 k hkp hkl).1, (h.f.2 k hkp hkl).2, hz'.1, hz'.2⟩
  rw [h0.cellAt k (by omega)]
  simp [nvals, hkp]
theorem OwL.node_put {g n c : Nat} (h : OwL w nL C (.slice (some ⟨g, 0, none⟩) n c) vS vP vQ vR ps vs us L W) (hn : L.nodes.length = n) (k : Nat) {a b : Nat} {z : Int × Int} (ha : Fl 0 a z.1) (hb : Fl 0 b z.2) :
    OwL w nL C (.slice (some ⟨g, 0, none⟩) n c) vS vP vQ vR (ps.set k (a, b)) vs us { L with nodes := L.nodes.set k z } (W.setCell ⟨g, k, none⟩ (.complex .f64 a b)) := by
  have h0 : W.ownsRow (nL + 1) 36 1 (.slice (some ⟨g, 0, none⟩) n c) L.nodes.length (nvals ps) := h.n
  rw [hn] at h0
  obtain ⟨h1, h2⟩ := h0.stored k (.complex .f64 a b)
  rw [nvals_set] at h1
  exact h.nodes (by rw [List.length_set, hn]; exact h1) (h.f.set k ha hb) h2
/-- A section's cell written. -/
theorem OwL.sec_put {g n c : Nat} (h : OwL w nL C vN (.slice (some ⟨g, 0, none⟩) n c) vP vQ vR ps vs us L W) (hn : L.secs.length = n) (s off : Nat) (hs : s < n) (ho : off < 3) (y : Int) :
    W.frozen? ⟨g, s * 3 + off, none⟩ = false ∧ (∃ x : Int, W.cell? ⟨g, s * 3 + off, none⟩ = some (.int .i64 x)) ∧ ∃ ss : List (Int × Int × Int), ss.length = n ∧ OwL w nL C vN (.slice (some ⟨g, 0, none⟩) n c) vP vQ vR ps vs us { L with secs := ss } (W.setCell ⟨g, s * 3 + off, none⟩ (.int .i64 y)) := by
  have h0 : W.ownsRow (nL + 1) 39 3 (.slice (some ⟨g, 0, none⟩) n c) L.secs.length (scells L.secs) := h.s
  rw [hn] at h0
  have hsl : s < L.secs.length := by omega
  obtain ⟨h1, h2⟩ := h0.stored (s * 3 + off) (.int .i64 y)
  have e : ∃ ss : List (Int × Int × Int), ss.length = n ∧ (scells L.secs).set (s * 3 + off) (.int .i64 y) = scells ss := by
    obtain ⟨e0, e1, e2⟩ := scells_set L.secs s y hsl
    rcases (show off = 0 ∨ off = 1 ∨ off = 2 by omega) with rfl | rfl | rfl
    · exact ⟨_, by rw [List.length_set]; exact hn, e0⟩
    · exact ⟨_, by rw [List.length_set]; exact hn, e1⟩
    · exact ⟨_, by rw [List.length_set]; exact hn, e2⟩
  obtain ⟨ss, hsn, e⟩ := e
  rw [e] at h1
  refine ⟨h0.frozenAt _, ?_, ss, hsn, h.secs (by rw [hsn]; exact h1) h2⟩
  rw [h0.cellAt _ (by omega)]
  obtain ⟨c0, c1, c2⟩ := scells_get L.secs s hsl
  rcases (show off = 0 ∨ off = 1 ∨ off = 2 by omega) with rfl | rfl | rfl
  · exact ⟨_, c0⟩
  · exact ⟨_, c1⟩
  · exact ⟨_, c2⟩
/-- A part put in another one's place. -/
theorem OwL.part_put {g n c : Nat} (h : OwL w nL C vN vS (.slice (some ⟨g, 0, none⟩) n c) vQ vR ps vs us L W) (hn : L.parts.length = n) (p : Nat) {v : Value} {r : List Int} (hr : RowOk W nL v r) :
    OwL w nL C vN vS (.slice (some ⟨g, 0, none⟩) n c) vQ vR ps (vs.set p v) us { L with parts := L.parts.set p r } (W.setCell ⟨g, p, none⟩ v) := by
  have h0 : W.ownsRow (nL + 1) 42 1 (.slice (some ⟨g, 0, none⟩) n c) L.parts.length vs := h.p
  rw [hn] at h0
  obtain ⟨h1, h2⟩ := h0.stored p v
  exact h.parts (by rw [List.length_set, hn]; exact h1) (h.pr.set p hr) h2 h.ap
theorem OwL.part_at {g n c : Nat} (h : OwL w nL C vN vS (.slice (some ⟨g, 0, none⟩) n c) vQ vR ps vs us L W) (hn : L.parts.length = n) (p : Nat) (hp : p < n) :
    ∃ (A : Option Addr) (m d : Nat) (r : List Int), W.cell? ⟨g, p, none⟩ = some (.slice A m d) ∧ W.frozen? ⟨g, p, none⟩ = false ∧ r ∈ L.parts ∧ r.length = m ∧ Rd W W.heap.size (.slice A m d) (ivals r) := by
  have h0 : W.ownsRow (nL + 1) 42 1 (.slice (some ⟨g, 0, none⟩) n c) L.parts.length vs := h.p
  rw [hn] at h0
  have hl := h.pr.1
  have hpv : p < vs.length := by omega
  have hpp : p < L.parts.length := by omega
  have hrd := (h.pr.2 p hpv hpp).rd h.lt
  have h2 := hrd
  obtain ⟨A, d, e, _⟩ := hrd
  rw [show (ivals L.parts[p]).length = L.parts[p].length by simp [ivals]] at e
  refine ⟨A, L.parts[p].length, d, L.parts[p], ?_, h0.frozenAt p, List.getElem_mem hpp, rfl, by rw [← e]; exact h2⟩
  rw [h0.cellAt p (by omega), List.getElem?_eq_getElem hpv, e]
end
theorem tm_bd (a m : Int) (hm : 0 < m) : (a.tmod m).natAbs < m.natAbs := by rw [Int.natAbs_tmod]; exact Nat.mod_lt _ (by omega)
theorem store_complex (a : Addr) (u v : Nat) (m : Mode) (w : World) : (store a (.complex .f64 u v) m).run Tryz.prog w = stored Tryz.prog w a (.complex .f64 u v) m := run_store Tryz.prog w a _ m rfl
/-- An append in a region that draws its order: onto one's own, from anywhere. -/
theorem wp_app_src2 {P : Program} {w : World} {o : Oper} {a : Act} {K : Act → World → Prop} {Q : Exit → Act → World → Prop} (s x : Operand) (t : TypeId)
    (ho : o.op = .call { callee := .builtin .append, args := #[s, x], argTypes := #[t, t] })
    (base : Nat) (e : TypeId) (i : TypeInfo) (z : Value) (sz by_ : Nat) (ht : P.underlying t = some (.slice e)) (hi : P.info? e = some i) (hz : i.zero = some z)
    (hsize : i.size = sz) (hby : i.bytes = by_) (hzs : z.cells.size = sz) (hsz : 0 < sz)
    (v : Value) (n : Nat) (xs : List Value) (hs : a.eval s = v) (hown : w.ownsRow base e sz v n xs)
    (A : Option Addr) (m c : Nat) (ys : List Value) (hx : a.eval x = .slice A m c) (hsrc : Sr2 w A m sz ys) (h63 : n + m ≤ 1000000) (hb32 : by_ ≤ 100) (hbase : base ≤ w.heap.size)
    (h : ∀ v' w', w'.ownsRow base e sz v' (n + m) (xs ++ ys) → w.grownBy w' v.ownBlock → K (a.put o.dst v') w') : o.wp P a w K Q := by
  obtain ⟨hl, h0, hp, hone⟩ := hsrc
  have hbb : (n + m) * by_ ≤ 140737488355328 := by
    have := Nat.mul_le_mul h63 hb32
    omega
  cases A with
  | none =>
    have hm0 := h0 rfl
    subst hm0
    have hys : ys = [] := List.length_eq_zero_iff.1 (by omega)
    subst hys
    have hrun := run_append_empty (P := P) (w := w) base t o.type e i sz c ht hi v n xs hown
    unfold Oper.wp execOp
    simp only [ho, resolve, invoke, builtin, Sem.run_bind, Sem.run_pure, Result.andThen_ok, List.map_toArray, List.map_cons, List.map_nil, hs, hx, hrun]
    exact h v w (by simpa using hown) (grown_same _ _)
  | some ad =>
    have hnews : ∀ j u, ys[j]? = some u → w.cell? (ad.add j) = some u := by
      intro j u hu
      have hpos : 0 < m := by
        rcases Nat.eq_zero_or_pos m with e0 | e0
        · subst e0
          have := (List.getElem?_eq_some_iff.1 hu).1
          omega
        · exact e0
      obtain ⟨ad', e1, hcell⟩ := hp hpos
      injection e1 with e1
      subst e1
      exact hcell j u hu
    obtain ⟨v', w', hr, h2, h3, h4, h5⟩ := run_append_own_at (P := P) w base t o.type e i z sz by_ ht hi hz hsize hby hzs hsz v n xs hown ad m c ys hl hnews hone (by unfold maxLen; omega) hbb hbase
    unfold Oper.wp execOp
    simp only [ho, resolve, invoke, builtin, Sem.run_bind, Sem.run_pure, Result.andThen_ok, List.map_toArray, List.map_cons, List.map_nil, hs, hx, hr]
    exact h v' w' h2 h3
theorem grown_fresh {W W' : World} (h : W.grownBy W' (Value.slice none 0 0).ownBlock) : Below W.heap.size W W' := ⟨h.os, h.tape, h.output, h.size, fun k hk => h.block k hk (by simp [Value.ownBlock])⟩
theorem grown_above {W0 W W' : World} {B n s : Nat} {t : TypeId} {v : Value} {xs : List Value} (hb : Below W0.heap.size W0 W) (hv : W.ownsRow B t s v n xs) (hB : W0.heap.size ≤ B) (h : W.grownBy W' v.ownBlock) : Below W0.heap.size W0 W' :=
  hb.grown h hb.size (fun k e => by have := (hv.lt k e).1; omega)
theorem own_room {W : World} {B g n c s : Nat} {t : TypeId} {xs : List Value} (h : W.ownsRow B t s (.slice (some ⟨g, 0, none⟩) n c) n xs) : n ≤ c := by
  rcases h.2 with ⟨e, _⟩ | ⟨g', cap, cur, e, _, _, hc, _⟩
  · cases e
  · injection e with e1 e2 e3
    omega
end Go.Proofs.YtagkgejdammflaaGreat
