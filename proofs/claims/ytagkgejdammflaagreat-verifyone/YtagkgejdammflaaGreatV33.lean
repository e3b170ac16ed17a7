/- Pure: a draft's layout breaks no rule; its walks are paths. -/
import Derived.Test.YtagkgejdammflaaGreatV13
import Derived.Test.YtagkgejdammflaaGreatV28
import Derived.Test.YtagkgejdammflaaGreatBMath
namespace Go.Proofs.YtagkgejdammflaaGreat
open Go.RowKit Fl
set_option maxRecDepth 100000

/-- The draft with that form and that length alone. -/
def dFL (f l : Nat) : Dr := ⟨f, l, 0, 0, 0, 0, 0, 0, []⟩
def flOf (d : Dr) : Lay := makeL (dFL (d.form % 24) (d.len % 20))
theorem unit_fl (d : Dr) : unit (dFL (d.form % 24) (d.len % 20)) = unit d := by unfold unit; simp only [dFL]; omega
theorem ends_fl (d : Dr) : makeEnds (dFL (d.form % 24) (d.len % 20)) = makeEnds d := (makeEnds_shape d).symm
theorem makeSecs_unit {d d' : Dr} (h : unit d = unit d') (es : List (Int × Int)) : ∀ n, makeSecs d es n = makeSecs d' es n
  | 0 => rfl
  | n + 1 => by rw [makeSecs, makeSecs, makeSecs_unit h es n, h]
theorem fl_nodes (d : Dr) : (flOf d).nodes = (fullL d).nodes := by
  show makeNodes _ = makeNodes _
  have h1 : d.form % 24 % 4 = d.form % 4 := by omega
  have h2 : d.form % 24 / 4 % 6 = d.form / 4 % 6 := by omega
  have h3 : d.len % 20 % 20 = d.len % 20 := by omega
  unfold makeNodes rowLen unit
  simp only [dFL, h1, h2, h3]
theorem fl_secs (d : Dr) : (flOf d).secs = (fullL d).secs := by
  show makeSecs _ (makeEnds _) (makeEnds _).length = makeSecs _ _ _
  rw [ends_fl, makeSecs_unit (unit_fl d)]
theorem fl_points (d : Dr) : (flOf d).points = (fullL d).points := (makePoints_shape d).symm

/-- What hangs on the track alone. -/
def ownB (L : Lay) (p : Nat) : Bool := placeB (L.nodes.getD p (0, 0)) && !((L.nodes.take p).contains (L.nodes.getD p (0, 0)))
def threeB (L : Lay) (p : Int × Int × Int × Int) : Bool := decide ((secsAt L p.1).length = 3) && ((secsAt L p.1).contains p.2.1 && ((secsAt L p.1).contains p.2.2.1 && ((secsAt L p.1).contains p.2.2.2 && (decide (p.2.1 ≠ p.2.2.1) && (decide (p.2.1 ≠ p.2.2.2) && decide (p.2.2.1 ≠ p.2.2.2))))))
def geoOk (L : Lay) : Bool :=
  inB (L.nodes.length : Int) 2 40 && (inB (L.secs.length : Int) 1 32 && (decide ((L.points.length : Int) ≤ 8) &&
  ((List.range L.nodes.length).all (fun p => ownB L p && (inB ((endsL L.secs (p : Int)).length : Int) 1 3 && (itsPointB L (p : Int) && goesB L (p : Int)))) &&
  (L.secs.all (fun s => fitsSB L s && decide (s.2.1 ≠ s.2.2)) && L.points.all (threeB L)))))
theorem geo_all : ∀ (f : Fin 24) (l : Fin 20), geoOk (makeL (dFL f.val l.val)) = true := by decide +kernel
theorem geo_fl (d : Dr) : geoOk (flOf d) = true := geo_all ⟨d.form % 24, Nat.mod_lt _ (by decide)⟩ ⟨d.len % 20, Nat.mod_lt _ (by decide)⟩
theorem geoOk_eq {L M : Lay} (h1 : L.nodes = M.nodes) (h2 : L.secs = M.secs) (h3 : L.points = M.points) : geoOk L = geoOk M := by
  obtain ⟨a, b, c, d, e, f, g, h, i, j⟩ := L
  obtain ⟨a', b', c', d', e', f', g', h', i', j'⟩ := M
  simp only at h1 h2 h3
  subst h1 h2 h3
  rfl
theorem geo_full (d : Dr) : geoOk (fullL d) = true := by rw [← geoOk_eq (fl_nodes d) (fl_secs d) (fl_points d)]; exact geo_fl d

/-- The parts of so many sections. -/
def partsOk (ps : List (List Int)) (n : Nat) : Bool :=
  inB (ps.length : Int) 1 16 && (ps.all (fun r => decide (0 < r.length) && !r.any (fun s => !inB s 0 ((n : Int) - 1))) && (List.range n).all (fun (s : Nat) => decide (timesTo ps (s : Int) ps.length = 1)))
def dJ (j : Nat) : Dr := ⟨0, 0, 0, 0, 0, 0, 0, j, []⟩
theorem parts_all : ∀ (n : Fin 6) (j : Fin 256), partsOk (makeParts (dJ j.val) (n.val + 3)) (n.val + 3) = true := by decide +kernel
theorem parts_join2 {d d' : Dr} (h : d.join = d'.join) : ∀ n, makeParts d n = makeParts d' n
  | 0 => rfl
  | n + 1 => by
    have e : joins d n = joins d' n := by unfold joins; rw [h]
    rw [makeParts, makeParts, parts_join2 h n, e]
theorem parts_full (d : Dr) (hj : d.join < 256) : partsOk (fullL d).parts (fullL d).secs.length = true := by
  have hl := makeEnds_len d
  have hs : (fullL d).secs.length = (makeEnds d).length := makeSecs_len _ _ _
  rw [hs]
  show partsOk (makeParts d (makeEnds d).length) _ = true
  rw [parts_join2 (d := d) (d' := dJ d.join) rfl]
  have := parts_all ⟨(makeEnds d).length - 3, by omega⟩ ⟨d.join, hj⟩
  rw [show (makeEnds d).length - 3 + 3 = (makeEnds d).length by omega] at this
  exact this

theorem makeSecs_long (d : Dr) (es : List (Int × Int)) : ∀ n, ∀ s ∈ makeSecs d es n, 2 * (unit d : Int) ≤ s.1
  | 0, s, h => by simp [makeSecs] at h
  | n + 1, s, h => by
    rw [makeSecs, List.mem_append, List.mem_singleton] at h
    rcases h with h | h
    · exact makeSecs_long d es n s h
    · rw [h]; show 2 * (unit d : Int) ≤ 2 * (unit d : Int) + ((n % 3 : Nat) : Int); omega

/-! A walk is a path. -/
theorem walkGo_nodup (L : Lay) (ts : List Nat) (m : Nat) : ∀ f i o e, o.Nodup → (walkGo L ts m f i o e).Nodup
  | 0, _, _, _, h => h
  | f + 1, i, o, e, h => by
    rw [walkGo]
    split
    · exact h
    · split
      · exact h
      · split
        · exact h
        · rename_i hc
          refine walkGo_nodup L ts m f _ _ _ ?_
          rw [List.nodup_append]
          refine ⟨h, by simp, fun a ha b hb => ?_⟩
          rw [List.mem_singleton] at hb
          subst hb
          intro e2
          subst e2
          exact hc (by simpa using ha)
theorem walkL_nodup (L : Lay) (s k : Int) (ts : List Nat) (m : Nat) : (walkL L s k ts m).Nodup := walkGo_nodup L ts m m 0 [s] (s, k) (by simp)

/-- No two ways lead to one section. -/
def Uniq (L : Lay) : Prop := ∀ e, ((aroundL L e).map (·.1)).Nodup
theorem inL_uniq {xs : List (Int × Int)} (h : (xs.map (·.1)).Nodup) {i : Nat} (hi : i < xs.length) : inL xs xs[i].1 = some i := by
  refine inL_at hi rfl (fun j hj hji e => ?_)
  have h1 : (xs.map (·.1))[j]'(by simpa using hj) = (xs.map (·.1))[i]'(by simpa using hi) := by simpa using e
  exact List.pairwise_iff_getElem.1 h j i (by simpa using hj) (by simpa using hi) hji h1
theorem walkGo_way {L : Lay} (hU : Uniq L) (ts : List Nat) (m : Nat) : ∀ f i o e, ∃ q, walkGo L ts m f i o e = o ++ q ∧ (wayL L e q).isSome = true
  | 0, i, o, e => ⟨[], by simp [walkGo], rfl⟩
  | f + 1, i, o, e => by
    rw [walkGo]
    split
    · exact ⟨[], by simp, rfl⟩
    · split
      · exact ⟨[], by simp, rfl⟩
      · rename_i x hx
        split
        · exact ⟨[], by simp, rfl⟩
        · obtain ⟨q, h1, h2⟩ := walkGo_way hU ts m f (i + 1) (o ++ [x.1]) (x.1, 1 - x.2)
          refine ⟨x.1 :: q, by rw [h1, List.append_assoc]; rfl, ?_⟩
          obtain ⟨hk, hkx⟩ := List.getElem?_eq_some_iff.1 hx
          have hin := inL_uniq (hU e) hk
          rw [hkx] at hin
          rw [wayL_some hin]
          have hg : (aroundL L e).getD (turnK ts i (aroundL L e).length) (0, 0) = x := by simp [hx]
          rw [hg, Option.isSome_map]
          exact h2
theorem walk_path {L : Lay} (hU : Uniq L) (s : Int) (k : Int) (hk : k = 0 ∨ k = 1) (ts : List Nat) (m : Nat) (h2 : 2 ≤ (walkL L s k ts m).length) : (pathL L (walkL L s k ts m)).isSome = true := by
  obtain ⟨q, hq, hw⟩ := walkGo_way hU ts m m 0 [s] (s, k)
  have hn := walkL_nodup L s k ts m
  have hr := (riseL_len (walkL L s k ts m)).2 hn
  unfold pathL
  rw [if_neg (by omega)]
  have e : walkL L s k ts m = s :: q := hq
  rw [e]
  show (ways L s q).isSome = true
  unfold ways
  rcases hk with rfl | rfl
  · cases h : wayL L (s, 0) q with
    | some x => rfl
    | none => rw [h] at hw; cases hw
  · cases h : wayL L (s, 0) q with
    | some x => rfl
    | none => exact hw

def uniqOk (L : Lay) : Bool := (List.range L.secs.length).all fun s => [(0 : Int), 1].all fun k => decide (((aroundL L ((s : Int), k)).map (·.1)).Nodup)
theorem uniq_shapes : ∀ f : Fin 24, uniqOk (makeL (dOf f.val)) = true := by decide +kernel
theorem uniq_full (d : Dr) : Uniq (fullL d) := by
  intro e
  rw [aroundL_se (shape_se d) (shape_pts d)]
  have h := uniq_shapes ⟨d.form % 24, Nat.mod_lt _ (by decide)⟩
  by_cases hn : aroundL (shape d) e = []
  · rw [hn]; simp
  · obtain ⟨n, hn2⟩ : ∃ n, nodeL (shape d).secs e = some n := by
      cases hh : nodeL (shape d).secs e with
      | some n => exact ⟨n, rfl⟩
      | none => exact absurd (by unfold aroundL; rw [hh]) hn
    unfold nodeL at hn2
    split at hn2
    · rename_i hb
      unfold hasB at hb
      simp only [Bool.and_eq_true, decide_eq_true_eq] at hb
      have he2 : e.2 = 0 ∨ e.2 = 1 := by
        split at hn2
        · rename_i h0; exact Or.inl h0
        · split at hn2
          · rename_i h1; exact Or.inr h1
          · cases hn2
      have h2 := List.all_eq_true.1 h e.1.toNat (List.mem_range.2 (by show e.1.toNat < (shape d).secs.length; omega))
      have h3 := List.all_eq_true.1 h2 e.2 (by rcases he2 with h | h <;> rw [h] <;> simp)
      have h4 := of_decide_eq_true h3
      have e1 : ((e.1.toNat : Int), e.2) = e := by
        obtain ⟨a, b⟩ := e
        have : ((a.toNat : Nat) : Int) = a := by simp only at hb; omega
        simp only [this]
      rw [e1] at h4
      exact h4
    · cases hn2

theorem fullStep_all (P : List Int → Prop) (L : Lay) (hP : ∀ x, 2 ≤ (pathOf L x).length → P (pathOf L x)) : ∀ (xs : List (List Nat)) (rs : List (List Int)), (∀ r ∈ rs, P r) → ∀ r ∈ xs.foldl (fullStep L) rs, P r
  | [], rs, h => h
  | x :: q, rs, h => by
    rw [List.foldl_cons]
    refine fullStep_all P L hP q _ ?_
    unfold fullStep
    split
    · rename_i hc
      intro r hr
      rw [List.mem_append, List.mem_singleton] at hr
      rcases hr with hr | hr
      · exact h r hr
      · rw [hr]; exact hP x hc.2.2
    · exact h
theorem fullStep_all' (P : List Int → Prop) (L : Lay) : ∀ (xs : List (List Nat)) (rs : List (List Int)), (∀ x ∈ xs, 2 ≤ (pathOf L x).length → P (pathOf L x)) → (∀ r ∈ rs, P r) → ∀ r ∈ xs.foldl (fullStep L) rs, P r
  | [], rs, _, h => h
  | x :: q, rs, hP, h => by
    rw [List.foldl_cons]
    refine fullStep_all' P L q _ (fun y hy => hP y (List.mem_cons_of_mem _ hy)) ?_
    unfold fullStep
    split
    · rename_i hc
      intro r hr
      rw [List.mem_append, List.mem_singleton] at hr
      rcases hr with hr | hr
      · exact h r hr
      · rw [hr]; exact hP x (List.mem_cons_self ..) hc.2.2
    · exact h
theorem pathL_routes (L : Lay) (rs : List (List Int)) (p : List Int) : pathL { L with routes := rs } p = pathL L p := by
  have hw : ∀ (q : List Int) (e : Int × Int), wayL { L with routes := rs } e q = wayL L e q := by
    intro q
    induction q with
    | nil => intro e; rfl
    | cons n r ih =>
      intro e
      have h1 : aroundL { L with routes := rs } e = aroundL L e := rfl
      have h2 : needL { L with routes := rs } e n = needL L e n := rfl
      rw [wayL, wayL, h1, h2]
      cases inL (aroundL L e) n with
      | none => rfl
      | some i => simp only [ih]
  unfold pathL ways
  simp only [hw]
theorem routes_full (d : Dr) (hd : DrOk d) : ∀ r ∈ (fullL d).routes, r.length ≤ 6 ∧ (pathL (fullL d) r).isSome = true := by
  have hU := uniq_full d
  refine fullStep_all' _ (makeL d) d.routes [] ?_ (by simp)
  intro x hx h2
  refine ⟨?_, ?_⟩
  · unfold pathOf
    have := walkL_len (makeL d) ((x.getD 0 0 % (makeL d).secs.length : Nat) : Int) ((x.getD 0 0 / 128 : Nat) : Int) (x.drop 2) (2 + x.getD 1 0 % 5) (by omega)
    omega
  · have e : pathL (fullL d) (pathOf (makeL d) x) = pathL (makeL d) (pathOf (makeL d) x) := pathL_routes (makeL d) _ _
    have hU2 : Uniq (makeL d) := hU
    rw [e]
    unfold pathOf at h2 ⊢
    refine walk_path hU2 _ _ ?_ _ _ h2
    have hx0 : x.getD 0 0 < 256 := by
      rcases x with _ | ⟨a, r⟩
      · show 0 < 256; omega
      · exact hd.bytes _ hx a (List.mem_cons_self ..)
    have : x.getD 0 0 / 128 = 0 ∨ x.getD 0 0 / 128 = 1 := by omega
    rcases this with h | h <;> rw [h]
    · exact Or.inl rfl
    · exact Or.inr rfl

/-- A draft's layout breaks no rule. -/
theorem full_first (d : Dr) (hd : DrOk d) : firstL (fullL d) = (0, 0) := by
  have hg := geo_full d
  unfold geoOk at hg
  simp only [Bool.and_eq_true] at hg
  obtain ⟨g0, g2, g8, gn, gs, gp⟩ := hg
  have hp := parts_full d hd.join
  unfold partsOk at hp
  simp only [Bool.and_eq_true] at hp
  obtain ⟨p12, p13, p14⟩ := hp
  have hr := routes_full d hd
  have hu := unit_bounds d
  have hPt : Parted (fullL d) := fun s hs => by
    have := List.all_eq_true.1 gs s hs
    simp only [Bool.and_eq_true, decide_eq_true_eq] at this
    exact this.2
  apply firstL_good
  intro k hk p hpn
  have node : ∀ q, q < (fullL d).nodes.length → ownB (fullL d) q = true ∧ inB ((endsL (fullL d).secs (q : Int)).length : Int) 1 3 = true ∧ itsPointB (fullL d) (q : Int) = true ∧ goesB (fullL d) (q : Int) = true := fun q hq => by
    have := List.all_eq_true.1 gn q (List.mem_range.2 hq)
    simp only [Bool.and_eq_true] at this
    exact this
  rcases (by omega : k = 0 ∨ k = 1 ∨ k = 2 ∨ k = 3 ∨ k = 4 ∨ k = 5 ∨ k = 6 ∨ k = 7 ∨ k = 8 ∨ k = 9 ∨ k = 10 ∨ k = 11 ∨ k = 12 ∨ k = 13 ∨ k = 14 ∨ k = 15 ∨ k = 16) with rfl | rfl | rfl | rfl | rfl | rfl | rfl | rfl | rfl | rfl | rfl | rfl | rfl | rfl | rfl | rfl | rfl
  · exact g0
  · have hpl : p < (fullL d).nodes.length := hpn
    have e : ruleB (fullL d) 1 p = ownPlaceB (fullL d) p hpl := by show (if h : p < (fullL d).nodes.length then ownPlaceB (fullL d) p h else false) = _; rw [dif_pos hpl]
    rw [e]
    have h1 := (node p hpl).1
    unfold ownB at h1
    have eg : (fullL d).nodes.getD p (0, 0) = (fullL d).nodes[p] := by simp [hpl]
    rw [eg] at h1
    unfold ownPlaceB
    simp only [Bool.and_eq_true, Bool.not_eq_true', decide_eq_false_iff_not] at h1 ⊢
    exact ⟨h1.1, fun hm => by have h3 := h1.2; rw [List.contains_iff_mem.2 hm] at h3; cases h3⟩
  · exact g2
  · have hpl : p < (fullL d).secs.length := hpn
    show fitsSB (fullL d) ((fullL d).secs.getD p (0, 0, 0)) = true
    have eg : (fullL d).secs.getD p (0, 0, 0) = (fullL d).secs[p] := by simp [hpl]
    rw [eg]
    have := List.all_eq_true.1 gs _ (List.getElem_mem hpl)
    simp only [Bool.and_eq_true] at this
    exact this.1
  · show inB (1 + ((d.speed % (2 * unit d) : Nat) : Int)) 1 10000 = true
    have := Nat.mod_lt d.speed (show 0 < 2 * unit d by omega)
    unfold inB
    simp only [decide_eq_true_eq]
    omega
  · have hpl : p < (fullL d).secs.length := hpn
    show decide (1 + ((d.speed % (2 * unit d) : Nat) : Int) ≤ ((fullL d).secs.getD p (0, 0, 0)).1) = true
    have eg : (fullL d).secs.getD p (0, 0, 0) = (fullL d).secs[p] := by simp [hpl]
    rw [eg]
    have := Nat.mod_lt d.speed (show 0 < 2 * unit d by omega)
    have h2 : 2 * (unit d : Int) ≤ (fullL d).secs[p].1 := makeSecs_long d _ _ _ (List.getElem_mem hpl)
    simp only [decide_eq_true_eq]
    omega
  · show timesB (fullL d) = true
    have hc := hd.cancel
    unfold timesB inB
    simp only [Bool.and_eq_true, decide_eq_true_eq]
    show (1 ≤ 1 + ((d.mute % 1000 : Nat) : Int) ∧ _ ≤ _) ∧ (1 ≤ 1 + ((d.wait % 1000 : Nat) : Int) ∧ 1 + ((d.wait % 1000 : Nat) : Int) ≤ 1000) ∧ (1 ≤ 1 + (d.cancel : Int) ∧ 1 + (d.cancel : Int) ≤ 1000) ∧ 0 ≤ ((d.stay % 4 : Nat) : Int) ∧ ((d.stay % 4 : Nat) : Int) ≤ 1000
    refine ⟨⟨by omega, ?_⟩, by omega, by omega, by omega, by omega⟩
    show 1 + ((d.mute % 1000 : Nat) : Int) ≤ 1000
    omega
  · exact (node p hpn).2.1
  · exact g8
  · have hpl : p < (fullL d).points.length := hpn
    show joinsB (fullL d) ((fullL d).points.getD p (0, 0, 0, 0)) = true
    have eg : (fullL d).points.getD p (0, 0, 0, 0) = (fullL d).points[p] := by simp [hpl]
    rw [eg]
    have := List.all_eq_true.1 gp _ (List.getElem_mem hpl)
    unfold threeB at this
    simp only [Bool.and_eq_true, decide_eq_true_eq, List.contains_iff_mem] at this
    obtain ⟨a, b, c, e, f, g, h⟩ := this
    exact (joins_iff hPt _).2 ⟨⟨a, b, c, e⟩, f, g, h⟩
  · exact (node p hpn).2.2.1
  · exact (node p hpn).2.2.2
  · exact p12
  · have hpl : p < (fullL d).parts.length := hpn
    show ofSecsB (fullL d) ((fullL d).parts.getD p []) = true
    have eg : (fullL d).parts.getD p [] = (fullL d).parts[p] := by simp [hpl]
    rw [eg]
    exact List.all_eq_true.1 p13 _ (List.getElem_mem hpl)
  · exact List.all_eq_true.1 p14 p (List.mem_range.2 hpn)
  · show decide (((fullL d).routes.length : Int) ≤ 16) = true
    have : (fullL d).routes.length ≤ 16 := foldl_le (makeL d) d.routes [] (by simp)
    simp only [decide_eq_true_eq]; omega
  · have hpl : p < (fullL d).routes.length := hpn
    show pathB (fullL d) ((fullL d).routes.getD p []) = true
    have eg : (fullL d).routes.getD p [] = (fullL d).routes[p] := by simp [hpl]
    rw [eg]
    have := hr _ (List.getElem_mem hpl)
    unfold pathB
    simp only [Bool.and_eq_true, decide_eq_true_eq]
    exact ⟨by omega, this.2⟩
theorem full_vf (d : Dr) : Vf (fullL d) := ⟨fullL_fits d, by
    have h : (fullL d).nodes.length ≤ 9 := by
      show (makeNodes d).length ≤ 9
      unfold makeNodes; split <;> simp
      unfold rowLen; omega
    omega, by have : (fullL d).routes.length ≤ 16 := foldl_le (makeL d) d.routes [] (by simp); omega⟩

end Go.Proofs.YtagkgejdammflaaGreat
