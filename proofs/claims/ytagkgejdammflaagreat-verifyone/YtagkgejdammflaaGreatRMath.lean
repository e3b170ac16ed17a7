/- Pure: the document's Rise. -/
import Derived.Test.YtagkgejdammflaaGreatSMath
import Derived.Test.YtagkgejdammflaaGreatNA
namespace Go.Proofs.YtagkgejdammflaaGreat
open Go.RowKit Fl
set_option maxRecDepth 100000

/-- Is a number behind the first 'm' of a rising list? -/
def beyond (R : List Int) (m : Nat) (x : Int) : Prop := m = 0 ∨ R.getD (m - 1) 0 < x
/-- The place of the least number that is behind, of the first 'i'. -/
def Best (xs R : List Int) (m i : Nat) : Option Nat → Prop
  | none => ∀ j (_ : j < xs.length), j < i → ¬ beyond R m xs[j]
  | some b => ∃ hb : b < xs.length, b < i ∧ beyond R m xs[b] ∧ ∀ j (_ : j < xs.length), j < i → beyond R m xs[j] → xs[b] ≤ xs[j]
theorem Best.start (xs R : List Int) (m : Nat) : Best xs R m 0 none := fun _ _ h => absurd h (by omega)
theorem Best.skip {xs R : List Int} {m i : Nat} {o : Option Nat} (h : Best xs R m i o) (hi : i < xs.length) (hn : ¬ beyond R m xs[i]) : Best xs R m (i + 1) o := by
  cases o with
  | none =>
    intro j hj hji
    rcases Nat.lt_or_ge j i with c | c
    · exact h j hj c
    · obtain rfl : j = i := by omega
      exact hn
  | some b =>
    obtain ⟨hb, h1, h2, h3⟩ := h
    refine ⟨hb, by omega, h2, fun j hj hji hbj => ?_⟩
    rcases Nat.lt_or_ge j i with c | c
    · exact h3 j hj c hbj
    · obtain rfl : j = i := by omega
      exact absurd hbj hn
theorem Best.keep {xs R : List Int} {m i b : Nat} (h : Best xs R m i (some b)) (hi : i < xs.length) (hn : ¬ xs[i] < xs.getD b 0) : Best xs R m (i + 1) (some b) := by
  obtain ⟨hb, h1, h2, h3⟩ := h
  have e : xs.getD b 0 = xs[b] := by simp [List.getD, hb]
  rw [e] at hn
  refine ⟨hb, by omega, h2, fun j hj hji hbj => ?_⟩
  rcases Nat.lt_or_ge j i with c | c
  · exact h3 j hj c hbj
  · obtain rfl : j = i := by omega
    omega
theorem Best.take0 {xs R : List Int} {m i : Nat} (h : Best xs R m i none) (hi : i < xs.length) (hb : beyond R m xs[i]) : Best xs R m (i + 1) (some i) := by
  refine ⟨hi, by omega, hb, fun j hj hji hbj => ?_⟩
  rcases Nat.lt_or_ge j i with c | c
  · exact absurd hbj (h j hj c)
  · obtain rfl : j = i := by omega
    exact Int.le_refl _
theorem Best.take1 {xs R : List Int} {m i b : Nat} (h : Best xs R m i (some b)) (hi : i < xs.length) (hb : beyond R m xs[i]) (hl : xs[i] < xs.getD b 0) : Best xs R m (i + 1) (some i) := by
  obtain ⟨hb', h1, h2, h3⟩ := h
  have e : xs.getD b 0 = xs[b] := by simp [List.getD, hb']
  rw [e] at hl
  refine ⟨hi, by omega, hb, fun j hj hji hbj => ?_⟩
  rcases Nat.lt_or_ge j i with c | c
  · have := h3 j hj c hbj; omega
  · obtain rfl : j = i := by omega
    exact Int.le_refl _
theorem sorted_lt {R : List Int} (hs : R.Pairwise (· < ·)) (i j : Nat) (hij : i < j) (hj : j < R.length) : R[i] < R[j] := List.pairwise_iff_getElem.1 hs i j (by omega) hj hij
/-- There is none behind: the list is whole. -/
theorem best_none {xs : List Int} {m : Nat} (h : Best xs (riseL xs) m xs.length none) : (riseL xs).take m = riseL xs := by
  apply List.take_of_length_le
  refine Nat.le_of_not_lt fun c => ?_
  have hx : (riseL xs)[m] ∈ xs := (riseL_mem xs _).1 (List.getElem_mem _)
  obtain ⟨j, hj, e⟩ := List.getElem_of_mem hx
  refine h j hj hj ?_
  rw [e]
  rcases Nat.eq_zero_or_pos m with c0 | c0
  · exact Or.inl c0
  · right
    have hlt : m - 1 < (riseL xs).length := by omega
    have e2 : (riseL xs).getD (m - 1) 0 = (riseL xs)[m - 1] := by simp [List.getD, hlt]
    rw [e2]
    exact sorted_lt (riseL_sorted xs) (m - 1) m (by omega) c
/-- The least that is behind is the next. -/
theorem best_some {xs : List Int} {m b : Nat} (hm : m ≤ (riseL xs).length) (h : Best xs (riseL xs) m xs.length (some b)) : m < (riseL xs).length ∧ (riseL xs).take m ++ [xs.getD b 0] = (riseL xs).take (m + 1) := by
  obtain ⟨hb, _, h2, h3⟩ := h
  have e : xs.getD b 0 = xs[b] := by simp [List.getD, hb]
  have hs := riseL_sorted xs
  have hx : xs[b] ∈ riseL xs := (riseL_mem xs _).2 (List.getElem_mem _)
  obtain ⟨j, hj, ej⟩ := List.getElem_of_mem hx
  have hjm : m ≤ j := by
    rcases h2 with c | c
    · omega
    · refine Nat.le_of_not_lt fun c2 => ?_
      have hlt : m - 1 < (riseL xs).length := by omega
      have e2 : (riseL xs).getD (m - 1) 0 = (riseL xs)[m - 1] := by simp [List.getD, hlt]
      rw [e2, ← ej] at c
      rcases Nat.lt_or_ge j (m - 1) with c3 | c3
      · have := sorted_lt hs j (m - 1) c3 hlt; omega
      · have e3 : j = m - 1 := by omega
        subst e3; omega
  have hml : m < (riseL xs).length := by omega
  refine ⟨hml, ?_⟩
  rw [List.take_succ_eq_append_getElem hml, e]
  congr 2
  have hx2 : (riseL xs)[m] ∈ xs := (riseL_mem xs _).1 (List.getElem_mem _)
  obtain ⟨q, hq, eq⟩ := List.getElem_of_mem hx2
  have hbq : beyond (riseL xs) m xs[q] := by
    rw [eq]
    rcases Nat.eq_zero_or_pos m with c0 | c0
    · exact Or.inl c0
    · right
      have hlt : m - 1 < (riseL xs).length := by omega
      have e2 : (riseL xs).getD (m - 1) 0 = (riseL xs)[m - 1] := by simp [List.getD, hlt]
      rw [e2]
      exact sorted_lt hs (m - 1) m (by omega) hml
  have h5 := h3 q hq hq hbq
  rw [eq] at h5
  rcases Nat.lt_or_ge m j with c | c
  · have := sorted_lt hs m j c hj; rw [ej] at this; omega
  · have e3 : j = m := by omega
    subst e3; rw [← ej]

end Go.Proofs.YtagkgejdammflaaGreat
