/- A point that stands otherwise: the pure side. -/
import Derived.Test.YtbomkifnhkmkoaaCM2
namespace Go.Proofs.Ytbomkifnhkmkoaa
open Go.RowKit Fl
set_option maxRecDepth 100000

/-- One of the three sections of a point. -/
def PT (p : Int × Int × Int × Int) (z : Int) : Prop := z = p.2.2.1 ∨ z = p.2.2.2 ∨ z = p.2.1
theorem PT.open_ (p : Int × Int × Int × Int) (b : Bool) : PT p (openL p b) := by
  cases b
  · exact Or.inl rfl
  · exact Or.inr (Or.inl rfl)

theorem next_turn {L : Lay} {e : Int × Int} {R R' : List Bool} {k : Nat} (hR : ∀ q, q ≠ k → R.getD q false = R'.getD q false) (h : nextL L e R ≠ nextL L e R') :
    PT (L.points.getD k (0, 0, 0, 0)) e.1 ∧ ∀ x x', nextL L e R = some x → nextL L e R' = some x' → x.1 ≠ x'.1 ∧ PT (L.points.getD k (0, 0, 0, 0)) x.1 ∧ PT (L.points.getD k (0, 0, 0, 0)) x'.1 := by
  rw [next_eq, next_eq] at h
  simp only [next_eq]
  unfold nextR at h ⊢
  by_cases h0 : (aroundL L e).length = 0
  · rw [if_pos h0, if_pos h0] at h; exact absurd rfl h
  rw [if_neg h0, if_neg h0] at h
  simp only [if_neg h0]
  by_cases h1 : pointAtL L e < 0
  · rw [if_pos h1, if_pos h1] at h; exact absurd rfl h
  rw [if_neg h1, if_neg h1] at h
  simp only [if_neg h1]
  by_cases hq : (pointAtL L e).toNat = k
  · rw [hq] at h ⊢
    generalize L.points.getD k (0, 0, 0, 0) = p at *
    generalize R.getD k false = b at *
    generalize R'.getD k false = b' at *
    generalize aroundL L e = es at *
    unfold nextP at h ⊢
    by_cases hs : e.1 = p.2.1
    · rw [if_pos hs, if_pos hs] at h
      simp only [if_pos hs]
      refine ⟨Or.inr (Or.inr hs), fun x x' hx hx' => ?_⟩
      have e1 : x.1 = openL p b := by have := List.find?_some hx; simpa using this
      have e2 : x'.1 = openL p b' := by have := List.find?_some hx'; simpa using this
      refine ⟨fun he => h ?_, by rw [e1]; exact PT.open_ p b, by rw [e2]; exact PT.open_ p b'⟩
      rw [show openL p b = openL p b' by rw [← e1, ← e2, he]]
    · rw [if_neg hs, if_neg hs] at h
      simp only [if_neg hs]
      by_cases h2 : e.1 = openL p b
      · refine ⟨by rw [h2]; exact PT.open_ p b, fun x x' hx hx' => ?_⟩
        by_cases h3 : e.1 = openL p b'
        · rw [if_pos h2, if_pos h3] at h; exact absurd rfl h
        · rw [if_neg h3] at hx'; cases hx'
      · by_cases h3 : e.1 = openL p b'
        · refine ⟨by rw [h3]; exact PT.open_ p b', fun x x' hx hx' => ?_⟩
          rw [if_neg h2] at hx; cases hx
        · rw [if_neg h2, if_neg h3] at h; exact absurd rfl h
  · rw [hR _ hq] at h; exact absurd rfl h

/-- Two lists that part only at the point. -/
def Dv (p : Int × Int × Int × Int) (n0 : Nat) (A B : List Int) : Prop :=
  A = B ∨ (∃ c x x' s s', n0 ≤ c.length ∧ A = c ++ x :: s ∧ B = c ++ x' :: s' ∧ x ≠ x' ∧ PT p x ∧ PT p x') ∨
  ∃ c z s, n0 ≤ c.length ∧ ((A = c ∧ B = c ++ s) ∨ (B = c ∧ A = c ++ s)) ∧ c.getLast? = some z ∧ PT p z

theorem goA_turn {L : Lay} {R R' : List Bool} {k : Nat} (hR : ∀ q, q ≠ k → R.getD q false = R'.getD q false) (tr : List Int) : ∀ f e m acc, (tr.reverse ++ acc).getLast? = some e.1 →
    Dv (L.points.getD k (0, 0, 0, 0)) tr.length (tr.reverse ++ (goA L R tr f e m acc).1) (tr.reverse ++ (goA L R' tr f e m acc).1)
  | 0, e, m, acc, _ => Or.inl rfl
  | f + 1, e, m, acc, hl => by
    have hc : tr.length ≤ (tr.reverse ++ acc).length := by rw [List.length_append, List.length_reverse]; omega
    rw [goA, goA]
    by_cases hm : m ≤ 0
    · rw [if_pos hm, if_pos hm]; exact Or.inl rfl
    rw [if_neg hm, if_neg hm]
    by_cases hn : nextL L e R = nextL L e R'
    · rw [← hn]
      cases nextL L e R with
      | none => exact Or.inl rfl
      | some x =>
        simp only
        by_cases hx : (tr.contains x.1 || acc.contains x.1) = true
        · rw [if_pos hx, if_pos hx]; exact Or.inl rfl
        · rw [if_neg hx, if_neg hx]
          exact goA_turn hR tr f _ _ _ (by rw [← List.append_assoc, List.getLast?_append]; simp)
    · obtain ⟨hp, hq⟩ := next_turn hR hn
      cases h1 : nextL L e R with
      | none =>
        cases h2 : nextL L e R' with
        | none => rw [h1, h2] at hn; exact absurd rfl hn
        | some x' =>
          simp only
          by_cases hx : (tr.contains x'.1 || acc.contains x'.1) = true
          · rw [if_pos hx]; exact Or.inl rfl
          · rw [if_neg hx]
            obtain ⟨s, hs⟩ := goA_ext L R' tr f (x'.1, 1 - x'.2) (m - lenL L.secs x'.1) (acc ++ [x'.1])
            exact Or.inr (Or.inr ⟨tr.reverse ++ acc, e.1, x'.1 :: s, hc, Or.inl ⟨rfl, by rw [hs]; simp⟩, hl, hp⟩)
      | some x =>
        cases h2 : nextL L e R' with
        | none =>
          simp only
          by_cases hx : (tr.contains x.1 || acc.contains x.1) = true
          · rw [if_pos hx]; exact Or.inl rfl
          · rw [if_neg hx]
            obtain ⟨s, hs⟩ := goA_ext L R tr f (x.1, 1 - x.2) (m - lenL L.secs x.1) (acc ++ [x.1])
            exact Or.inr (Or.inr ⟨tr.reverse ++ acc, e.1, x.1 :: s, hc, Or.inr ⟨rfl, by rw [hs]; simp⟩, hl, hp⟩)
        | some x' =>
          obtain ⟨hne, hp1, hp2⟩ := hq x x' h1 h2
          simp only
          obtain ⟨s, hs⟩ := goA_ext L R tr f (x.1, 1 - x.2) (m - lenL L.secs x.1) (acc ++ [x.1])
          obtain ⟨s', hs'⟩ := goA_ext L R' tr f (x'.1, 1 - x'.2) (m - lenL L.secs x'.1) (acc ++ [x'.1])
          by_cases hx : (tr.contains x.1 || acc.contains x.1) = true
          · rw [if_pos hx]
            by_cases hx' : (tr.contains x'.1 || acc.contains x'.1) = true
            · rw [if_pos hx']; exact Or.inl rfl
            · rw [if_neg hx']
              exact Or.inr (Or.inr ⟨tr.reverse ++ acc, e.1, x'.1 :: s', hc, Or.inl ⟨rfl, by rw [hs']; simp⟩, hl, hp⟩)
          · rw [if_neg hx]
            by_cases hx' : (tr.contains x'.1 || acc.contains x'.1) = true
            · rw [if_pos hx']
              exact Or.inr (Or.inr ⟨tr.reverse ++ acc, e.1, x.1 :: s, hc, Or.inr ⟨rfl, by rw [hs]; simp⟩, hl, hp⟩)
            · rw [if_neg hx']
              exact Or.inr (Or.inl ⟨tr.reverse ++ acc, x.1, x'.1, s, s', hc, by rw [hs]; simp, by rw [hs']; simp, hne, hp1, hp2⟩)

theorem span_turn {L : Lay} {R R' : List Bool} {k : Nat} (hR : ∀ q, q ≠ k → R.getD q false = R'.getD q false) (tr : List Int) (d m : Int) (h0 : 0 < tr.length) :
    Dv (L.points.getD k (0, 0, 0, 0)) tr.length (spanL L R tr d m).reverse (spanL L R' tr d m).reverse := by
  unfold spanL aheadL
  rw [if_neg (by omega), if_neg (by omega)]
  rw [List.reverse_append, List.reverse_append, List.reverse_reverse, List.reverse_reverse]
  refine goA_turn hR tr _ _ _ _ ?_
  rw [List.append_nil, List.getLast?_reverse]
  cases tr with
  | nil => simp at h0
  | cons a r => rfl

theorem dv_at {p : Int × Int × Int × Int} {n0 : Nat} {A B : List Int} (h : Dv p n0 A B) {i : Nat} {u v : Int} (hu : A[i]? = some u) (hv : B[i]? = some v) (hne : u ≠ v) (hj : ∀ j, j < i → A[j]? = B[j]?) : n0 ≤ i ∧ PT p u ∧ PT p v := by
  rcases h with rfl | ⟨c, x, x', s, s', hc, rfl, rfl, hx, h1, h2⟩ | ⟨c, z, s, hc, hh, hz, hp⟩
  · rw [hu] at hv; injection hv with hv; exact absurd hv hne
  · rcases Nat.lt_trichotomy i c.length with hi | hi | hi
    · rw [List.getElem?_append_left hi] at hu hv
      rw [hu] at hv; injection hv with hv; exact absurd hv hne
    · subst hi
      rw [List.getElem?_append_right (Nat.le_refl _), Nat.sub_self] at hu hv
      simp only [List.getElem?_cons_zero, Option.some.injEq] at hu hv
      subst hu hv
      exact ⟨hc, h1, h2⟩
    · have := hj c.length hi
      rw [List.getElem?_append_right (Nat.le_refl _), List.getElem?_append_right (Nat.le_refl _), Nat.sub_self] at this
      simp only [List.getElem?_cons_zero, Option.some.injEq] at this
      exact absurd this hx
  · rcases hh with ⟨rfl, rfl⟩ | ⟨rfl, rfl⟩
    · have hi : i < A.length := (List.getElem?_eq_some_iff.1 hu).1
      rw [List.getElem?_append_left hi, hu] at hv
      injection hv with hv; exact absurd hv hne
    · have hi : i < B.length := (List.getElem?_eq_some_iff.1 hv).1
      rw [List.getElem?_append_left hi, hv] at hu
      injection hu with hu; exact absurd hu.symm hne

theorem dv_end {p : Int × Int × Int × Int} {n0 n : Nat} {A B : List Int} (h : Dv p n0 A B) (hn : n = min A.length B.length) (hl : A.length ≠ B.length) (hj : ∀ j, j < n → A[j]? = B[j]?) : n0 ≤ n ∧ 0 < n ∧ ∃ z, A[n - 1]? = some z ∧ PT p z := by
  rcases h with rfl | ⟨c, x, x', s, s', hc, rfl, rfl, hx, h1, h2⟩ | ⟨c, z, s, hc, hh, hz, hp⟩
  · exact absurd rfl hl
  · have hlt : c.length < n := by rw [hn]; simp only [List.length_append, List.length_cons]; omega
    have := hj c.length hlt
    rw [List.getElem?_append_right (Nat.le_refl _), List.getElem?_append_right (Nat.le_refl _), Nat.sub_self] at this
    simp only [List.getElem?_cons_zero, Option.some.injEq] at this
    exact absurd this hx
  · have hcp : 0 < c.length := by
      cases c with
      | nil => simp at hz
      | cons a r => simp
    rw [List.getLast?_eq_getElem?] at hz
    rcases hh with ⟨rfl, rfl⟩ | ⟨rfl, rfl⟩
    · have hnn : n = A.length := by rw [hn, List.length_append]; omega
      subst hnn
      exact ⟨hc, hcp, z, hz, hp⟩
    · have hnn : n = B.length := by rw [hn, List.length_append]; omega
      subst hnn
      exact ⟨hc, hcp, z, by rw [List.getElem?_append_left (by omega)]; exact hz, hp⟩

end Go.Proofs.Ytbomkifnhkmkoaa
