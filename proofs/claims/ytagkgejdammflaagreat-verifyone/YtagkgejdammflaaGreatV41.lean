/- For VerifyOne: copies of a layout's lists; what is known of a draft's layout. -/
import Derived.Test.YtagkgejdammflaaGreatV38
import Derived.Test.YtagkgejdammflaaGreatV33
namespace Go.Proofs.YtagkgejdammflaaGreat
open Go.RowKit Fl
set_option maxRecDepth 100000

theorem run_append_empty {P : Program} {w : World} (base : Nat) (t ty e : TypeId) (i : TypeInfo) (size c : Nat) (ht : P.underlying t = some (.slice e)) (hi : P.info? e = some i)
    (v : Value) (n : Nat) (xs : List Value) (hown : w.ownsRow base e size v n xs) : (Builtin.append_ #[t, t] ty #[v, .slice none 0 c]).run P w = .ok v w := by
  rcases hown.2 with ⟨rfl, rfl⟩ | ⟨g, cap, cur, rfl, _, _, hnc, _⟩
  · simp [Builtin.append_, run_underlying ht, sizeOf, typeInfo, hi, Builtin.lenOf, Builtin.firstCells]
  · simp [Builtin.append_, run_underlying ht, sizeOf, typeInfo, hi, Builtin.lenOf, Builtin.firstCells, hnc, storeCells]
/-- What an append takes from; of nothing its room isn't asked. -/
structure Sr2 (w : World) (A : Option Addr) (m sz : Nat) (ys : List Value) : Prop where
  len : ys.length = m * sz
  nil : A = none → m = 0
  at_ : 0 < m → ∃ ad, A = some ad ∧ ∀ j u, ys[j]? = some u → w.cell? (ad.add j) = some u
  one : ∀ u ∈ ys, u.oneCell' = true
theorem wpList_app_new2 {P : Program} {w : World} {ops : Array Oper} {rest : List Oper} {o : Oper} {a : Act} {Q : Exit → Act → World → Prop} (hgd : o.guard = none) (s x : Operand) (t : TypeId)
    (ho : o.op = .call { callee := .builtin .append, args := #[s, x], argTypes := #[t, t] })
    (e : TypeId) (i : TypeInfo) (z : Value) (sz by_ : Nat) (ht : P.underlying t = some (.slice e)) (hi : P.info? e = some i) (hz : i.zero = some z)
    (hsize : i.size = sz) (hby : i.bytes = by_) (hzs : z.cells.size = sz) (hsz : 0 < sz) (hs : a.eval s = .slice none 0 0)
    (A : Option Addr) (m c : Nat) (ys : List Value) (hx : a.eval x = .slice A m c) (hsrc : Sr2 w A m sz ys) (h63 : m ≤ 1000000) (hb32 : by_ ≤ 100)
    (h : ∀ v' w', w'.ownsRow w.heap.size e sz v' m ys → Below w.heap.size w w' → wpList P ops Q rest (a.put o.dst v') w') : wpList P ops Q (o :: rest) a w := by
  obtain ⟨hl, h0, hp, hone⟩ := hsrc
  have hbb : (0 + m) * by_ ≤ 140737488355328 := by
    have := Nat.mul_le_mul h63 hb32
    rw [Nat.zero_add]
    omega
  cases A with
  | none =>
    have hm0 := h0 rfl
    subst hm0
    have hys : ys = [] := List.length_eq_zero_iff.1 (by omega)
    subst hys
    refine wpList_plain hgd fun K hK => ?_
    have hrun := run_append_empty (P := P) (w := w) w.heap.size t o.type e i sz c ht hi (.slice none 0 0) 0 [] (World.ownsRow_nil _ _ _ _)
    unfold Oper.wp
    simp only [execOp, ho, resolve, invoke, builtin, Sem.run_bind, Sem.run_pure, Result.andThen_ok, List.map_toArray, List.map_cons, List.map_nil, hs, hx, hrun]
    exact hK _ _ (h _ _ (World.ownsRow_nil _ _ _ _) (Below.refl _ _))
  | some ad =>
    refine wpList_append_own_at w hgd s x t ho w.heap.size e i z sz by_ ht hi hz hsize hby hzs hsz (.slice none 0 0) 0 [] hs (World.ownsRow_nil _ _ _ _) ad m c ys hx hl ?_ hone (by unfold maxLen; omega) hbb (Nat.le_refl _) ?_
    · intro j u hu
      have hpos : 0 < m := by
        rcases Nat.eq_zero_or_pos m with e0 | e0
        · subst e0
          have := (List.getElem?_eq_some_iff.1 hu).1
          omega
        · exact e0
      obtain ⟨ad', e1, hcell⟩ := hp hpos
      injection e1 with e1
      subst e1
      exact hcell j u hu
    · intro v' w' h1 h2 _ _
      rw [Nat.zero_add, List.nil_append] at h1
      exact h v' w' h1 ⟨h2.os, h2.tape, h2.output, h2.size, fun k hk => h2.block k hk (by simp [Value.ownBlock])⟩
theorem Sr.two {w : World} {A : Option Addr} {m c sz : Nat} {ys : List Value} (h : Sr w A m c sz ys) : Sr2 w A m sz ys := ⟨h.len, fun e => by have := h.nil e; have := h.cap; omega, h.at_, h.one⟩
theorem Sr2.pts {w : World} {D n c : Nat} {A : Option Addr} {xs : List (Int × Int × Int × Int)} (h : Pts w D (.slice A n c) xs) : Sr2 w A n 4 (pcells xs) := by
  have h2 := h
  obtain ⟨A', c', hv, hx⟩ := h
  injection hv with e1 e2 e3
  subst e1 e2 e3
  refine ⟨pcells_len xs, fun e => ?_, fun hp => ?_, pcells_one xs⟩
  · subst e
    rcases Nat.eq_zero_or_pos xs.length with e0 | e0
    · exact e0
    · obtain ⟨b, o, e1, _⟩ := hx e0; cases e1
  · obtain ⟨b, o, hA, _, hc⟩ := h2.cells hp
    exact ⟨_, hA, hc⟩
theorem Secs.cells {w : World} {D n c : Nat} {A : Option Addr} {xs : List (Int × Int × Int)} (h : Secs w D (.slice A n c) xs) (hp : 0 < xs.length) : ∃ b o, A = some ⟨b, o, none⟩ ∧ b < D ∧ ∀ j u, (scells xs)[j]? = some u → w.cell? ((⟨b, o, none⟩ : Addr).add j) = some u := by
  obtain ⟨A', c', hv, hx⟩ := h
  injection hv with e1 e2 e3
  subst e1 e3
  obtain ⟨b, o, hA, hb, hc⟩ := hx hp
  subst hA
  refine ⟨b, o, rfl, hb, fun j u hu => ?_⟩
  have hj : j < xs.length * 3 := by have := (List.getElem?_eq_some_iff.1 hu).1; rw [scells_len] at this; exact this
  have hadd : ((⟨b, o, none⟩ : Addr).add j) = ⟨b, o + j, none⟩ := by simp [Addr.add]
  rw [hadd]
  have hk : j / 3 < xs.length := by omega
  obtain ⟨a1, a2, a3⟩ := scells_get xs (j / 3) hk
  obtain ⟨c1, c2, c3⟩ := hc (j / 3) hk
  rcases (show j % 3 = 0 ∨ j % 3 = 1 ∨ j % 3 = 2 by omega) with e | e | e
  · have ej : j = j / 3 * 3 := by omega
    rw [ej] at hu ⊢; rw [a1] at hu; rw [← hu]; exact c1
  · have ej : j = j / 3 * 3 + 1 := by omega
    rw [ej] at hu ⊢; rw [a2] at hu; rw [← hu, ← Nat.add_assoc]; exact c2
  · have ej : j = j / 3 * 3 + 2 := by omega
    rw [ej] at hu ⊢; rw [a3] at hu; rw [← hu, ← Nat.add_assoc]; exact c3
theorem Sr2.secs {w : World} {D n c : Nat} {A : Option Addr} {xs : List (Int × Int × Int)} (h : Secs w D (.slice A n c) xs) : Sr2 w A n 3 (scells xs) := by
  have h2 := h
  obtain ⟨A', c', hv, hx⟩ := h
  injection hv with e1 e2 e3
  subst e1 e2 e3
  refine ⟨scells_len xs, fun e => ?_, fun hp => ?_, scells_one' xs⟩
  · subst e
    rcases Nat.eq_zero_or_pos xs.length with e0 | e0
    · exact e0
    · obtain ⟨b, o, e1, _⟩ := hx e0; cases e1
  · obtain ⟨b, o, hA, _, hc⟩ := h2.cells hp
    exact ⟨_, hA, hc⟩

/-- A layout's cell, while its lists are copied. -/
structure CpSt (wD : World) (nL : Nat) (C : Array Value) (W : World) : Prop where
  bel : Below nL wD W
  row : Row W nL 33 C
theorem CpSt.cp {wD : World} {nL : Nat} {C : Array Value} {W W' : World} (h : CpSt wD nL C W) (hb : Below W.heap.size W W') (i : Nat) (u : Value) {C' : Array Value} (hC : C.setIfInBounds i u = C') : CpSt wD nL C' (W'.setCell ⟨nL, i, none⟩ u) :=
  ⟨(h.bel.trans (hb.mono (Nat.le_of_lt h.row.lt))).setCell (Nat.le_refl _) u, by rw [← hC]; exact (Below.row hb h.row h.row.lt).set i u⟩
theorem own_cp {nL n s : Nat} {t : TypeId} {v : Value} {xs : List Value} {W W' : World} (h : W.ownsRow (nL + 1) t s v n xs) (hb : Below W.heap.size W W') (i : Nat) (u : Value) : (W'.setCell ⟨nL, i, none⟩ u).ownsRow (nL + 1) t s v n xs :=
  ownsRow_setCell_below (own_below h hb) (a := ⟨nL, i, none⟩) (Nat.lt_succ_self _) u
theorem LayData.low {wD W : World} {nL : Nat} {vN vS vP vQ vR : Value} {ps : List (Nat × Nat)} {L : Lay} (h : LayData wD nL vN vS vP vQ vR ps L) (hb : Below nL wD W) : LayData W nL vN vS vP vQ vR ps L :=
  h.mono (Nat.le_refl _) (fun _ hp => hb.cell hp)
theorem RowsAt.k {W : World} {nL : Nat} {A : Option Addr} {n c : Nat} {rows : List (List Int)} (h : RowsAt W nL (.slice A n c) rows) : ∃ vs, Rd W nL (.slice A n c) vs ∧ RowsK W nL vs rows ∧ vs.length = rows.length := by
  obtain ⟨vs, h1, h2, h3⟩ := h
  exact ⟨vs, h1, ⟨h2, fun i a b => Or.inl (h3 i a b)⟩, h2⟩
theorem RowsK.one {W : World} {nL : Nat} {vs : List Value} {rows : List (List Int)} (h : RowsK W nL vs rows) : ∀ u ∈ vs, u.oneCell' = true := by
  intro u hu
  obtain ⟨i, hi, rfl⟩ := List.getElem_of_mem hu
  rcases h.2 i hi (by have := h.1; omega) with ⟨A, c, e, _⟩ | h
  · rw [e]; rfl
  · obtain ⟨A, c, e⟩ := own_slice h
    rw [e]; rfl
theorem ap_two {W W' : World} {B n n' s s' : Nat} {t t' : TypeId} {v v' : Value} {xs xs' : List Value} (h : W.ownsRow B t s v n xs) (h' : W'.ownsRow W.heap.size t' s' v' n' xs') : v.ownBlock = none ∨ v.ownBlock ≠ v'.ownBlock := by
  cases e : v.ownBlock with
  | none => exact Or.inl rfl
  | some q =>
    refine Or.inr (fun e2 => ?_)
    have h1 := (h.lt q e).2
    have h2 := (h'.lt q e2.symm).1
    omega
theorem RowsAt.take {W : World} {D : Nat} {A : Option Addr} {n c : Nat} {rows : List (List Int)} (h : RowsAt W D (.slice A n c) rows) (m : Nat) (hm : m ≤ rows.length) : RowsAt W D (.slice A m c) (rows.take m) := by
  obtain ⟨vs, h1, h2, h3⟩ := h
  refine ⟨vs.take m, h1.take m (by omega), by simp [h2], fun i a d => ?_⟩
  have hi : i < vs.length := by simp at a; omega
  simpa using h3 i hi (by omega)
theorem grown_same (W : World) (b : Option Nat) : W.grownBy W b := ⟨rfl, rfl, rfl, Nat.le_refl _, fun _ _ _ => rfl⟩

theorem parts_rows : ∀ (n : Fin 6) (j : Fin 256), (makeParts (dJ j.val) (n.val + 3)).all (fun r => decide (r.length ≤ 50)) = true := by decide +kernel
theorem parts_rows_full (d : Dr) (hj : d.join < 256) : ∀ r ∈ (fullL d).parts, r.length ≤ 50 := by
  have hl := makeEnds_len d
  have e : (fullL d).parts = makeParts (dJ d.join) (makeEnds d).length := by
    show makeParts d (makeEnds d).length = _
    exact parts_join2 (d := d) (d' := dJ d.join) rfl _
  have h := parts_rows ⟨(makeEnds d).length - 3, by omega⟩ ⟨d.join, hj⟩
  rw [show (makeEnds d).length - 3 + 3 = (makeEnds d).length by omega, ← e] at h
  intro r hr
  have := List.all_eq_true.1 h r hr
  simpa using this
/-- How much there is of everything. -/
structure Few (L : Lay) : Prop where
  n : 2 ≤ L.nodes.length ∧ L.nodes.length ≤ 40
  s : 1 ≤ L.secs.length ∧ L.secs.length ≤ 32
  p : 1 ≤ L.parts.length ∧ L.parts.length ≤ 16
  q : L.points.length ≤ 8
  r : L.routes.length ≤ 16
  pr : ∀ r ∈ L.parts, r.length ≤ 50
  z : ∀ z ∈ L.nodes, z.1.natAbs ≤ 1000000 ∧ z.2.natAbs ≤ 1000000
theorem full_few (d : Dr) (hd : DrOk d) : Few (fullL d) := by
  have hg := geo_full d
  unfold geoOk at hg
  simp only [Bool.and_eq_true] at hg
  obtain ⟨g0, g2, g8, gn, -, -⟩ := hg
  have hp := parts_full d hd.join
  unfold partsOk at hp
  simp only [Bool.and_eq_true] at hp
  obtain ⟨p12, -, -⟩ := hp
  have b0 := of_decide_eq_true g0
  have b2 := of_decide_eq_true g2
  have b12 := of_decide_eq_true p12
  have b8 := of_decide_eq_true g8
  refine ⟨by omega, by omega, by omega, by omega, foldl_le (makeL d) d.routes [] (by simp), parts_rows_full d hd.join, fun z hz => ?_⟩
  obtain ⟨i, hi, rfl⟩ := List.getElem_of_mem hz
  have := List.all_eq_true.1 gn i (List.mem_range.2 hi)
  simp only [Bool.and_eq_true] at this
  have h1 := this.1
  unfold ownB placeB at h1
  simp only [Bool.and_eq_true, decide_eq_true_eq, List.getD_eq_getElem?_getD, List.getElem?_eq_getElem hi, Option.getD_some] at h1
  omega

theorem vf2_nodes {L : Lay} (h : Vf2 L) {zs : List (Int × Int)} (hl : zs.length ≤ 1000) : Vf2 { L with nodes := zs } := ⟨⟨⟨h.v.f.s, h.v.f.q, h.v.f.p, h.v.f.r⟩, hl, h.v.r⟩, h.r⟩
theorem vf2_secs {L : Lay} (h : Vf2 L) {zs : List (Int × Int × Int)} (hl : zs.length ≤ 100) : Vf2 { L with secs := zs } := ⟨⟨⟨hl, h.v.f.q, h.v.f.p, h.v.f.r⟩, h.v.n, h.v.r⟩, h.r⟩
theorem vf2_points {L : Lay} (h : Vf2 L) {zs : List (Int × Int × Int × Int)} (hl : zs.length ≤ 100) : Vf2 { L with points := zs } := ⟨⟨⟨h.v.f.s, hl, h.v.f.p, h.v.f.r⟩, h.v.n, h.v.r⟩, h.r⟩
theorem vf2_parts {L : Lay} (h : Vf2 L) {zs : List (List Int)} (hl : zs.length ≤ 100) (hr : ∀ r ∈ zs, r.length ≤ 100) : Vf2 { L with parts := zs } := ⟨⟨⟨h.v.f.s, h.v.f.q, hl, hr⟩, h.v.n, h.v.r⟩, h.r⟩
theorem vf2_routes {L : Lay} (h : Vf2 L) {zs : List (List Int)} (hl : zs.length ≤ 1000) (hr : ∀ r ∈ zs, r.length ≤ 1000) : Vf2 { L with routes := zs } := ⟨⟨⟨h.v.f.s, h.v.f.q, h.v.f.p, h.v.f.r⟩, h.v.n, hl⟩, hr⟩
theorem vf2_sc {L : Lay} (h : Vf2 L) (a b c d e : Int) : Vf2 { L with speed := a, mute := b, wait := c, cancel := d, stay := e } := ⟨⟨⟨h.v.f.s, h.v.f.q, h.v.f.p, h.v.f.r⟩, h.v.n, h.v.r⟩, h.r⟩
end Go.Proofs.YtagkgejdammflaaGreat
