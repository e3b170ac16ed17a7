/- Pure: numbers, rising, each once. -/
import Derived.Test.YtagkgejdammflaaGreatGB
namespace Go.Proofs.YtagkgejdammflaaGreat
open Go.RowKit Fl
set_option maxRecDepth 100000

theorem compactUpTo_sorted (d : Array Int) (hs : ∀ i j, i ≤ j → j < d.size → d[i]! ≤ d[j]!) : ∀ m, m ≤ d.size →
    ((Lib.compactUpTo d m).Pairwise (· < ·) ∧ (∀ x ∈ Lib.compactUpTo d m, 0 < m ∧ x ≤ d[m - 1]!) ∧ ∀ x, x ∈ Lib.compactUpTo d m ↔ ∃ j, j < m ∧ d[j]! = x)
  | 0, _ => by
    refine ⟨by simp [Lib.compactUpTo], by simp [Lib.compactUpTo], fun x => ⟨fun h => by simp [Lib.compactUpTo] at h, fun ⟨j, h, _⟩ => by omega⟩⟩
  | m + 1, hm => by
    obtain ⟨h1, h2, h3⟩ := compactUpTo_sorted d hs m (by omega)
    rw [Lib.compactUpTo_succ]
    by_cases hk : Lib.keeps d m = true
    · rw [if_pos hk]
      have hlt : ∀ x ∈ Lib.compactUpTo d m, x < d[m]! := by
        intro x hx
        obtain ⟨m0, hle⟩ := h2 x hx
        have hne : d[m]! ≠ d[m - 1]! := by
          unfold Lib.keeps at hk
          rcases of_decide_eq_true hk with e | e
          · omega
          · exact e
        have := hs (m - 1) m (by omega) (by omega)
        omega
      refine ⟨?_, ?_, ?_⟩
      · rw [List.pairwise_append]
        exact ⟨h1, List.pairwise_singleton _ _, fun x hx y hy => by rw [List.mem_singleton] at hy; rw [hy]; exact hlt x hx⟩
      · intro x hx
        rw [List.mem_append, List.mem_singleton] at hx
        refine ⟨by omega, ?_⟩
        show x ≤ d[m]!
        rcases hx with hx | hx
        · exact Int.le_of_lt (hlt x hx)
        · rw [hx]; exact Int.le_refl _
      · intro x
        rw [List.mem_append, List.mem_singleton, h3]
        constructor
        · rintro (⟨j, hj, e⟩ | e)
          · exact ⟨j, by omega, e⟩
          · exact ⟨m, by omega, e.symm⟩
        · rintro ⟨j, hj, e⟩
          rcases Nat.lt_or_ge j m with c | c
          · exact Or.inl ⟨j, c, e⟩
          · obtain rfl : j = m := by omega
            exact Or.inr e.symm
    · rw [if_neg hk, List.append_nil]
      have hm0 : m ≠ 0 ∧ d[m]! = d[m - 1]! := by
        unfold Lib.keeps at hk
        rw [decide_eq_true_eq] at hk
        constructor
        · intro e; exact hk (Or.inl e)
        · exact Classical.byContradiction fun e => hk (Or.inr e)
      refine ⟨h1, ?_, ?_⟩
      · intro x hx
        refine ⟨by omega, ?_⟩
        show x ≤ d[m]!
        rw [hm0.2]; exact (h2 x hx).2
      · intro x
        rw [h3]
        constructor
        · rintro ⟨j, hj, e⟩; exact ⟨j, by omega, e⟩
        · rintro ⟨j, hj, e⟩
          rcases Nat.lt_or_ge j m with c | c
          · exact ⟨j, c, e⟩
          · obtain rfl : j = m := by omega
            exact ⟨j - 1, by omega, by rw [← hm0.2]; exact e⟩

theorem sorted_get (zs : List Int) (h : zs.Pairwise (· ≤ ·)) : ∀ i j, i ≤ j → j < zs.toArray.size → zs.toArray[i]! ≤ zs.toArray[j]! := by
  intro i j hij hj
  have hj2 : j < zs.length := by simpa using hj
  rw [getElem!_pos zs.toArray i (by simpa using (by omega : i < zs.length)), getElem!_pos zs.toArray j hj]
  simp only [List.getElem_toArray]
  rcases Nat.lt_or_ge i j with c | c
  · exact List.pairwise_iff_getElem.1 h i j (by omega) hj2 c
  · obtain rfl : i = j := by omega
    exact Int.le_refl _
theorem sort_sorted (xs : List Int) : (xs.mergeSort fun x y => decide (x ≤ y)).Pairwise (· ≤ ·) := by
  have h := List.pairwise_mergeSort (le := fun x y : Int => decide (x ≤ y)) (by intro a b c h1 h2; simp at h1 h2 ⊢; omega) (by intro a b; simp; omega) xs
  exact h.imp (by intro a b h; simpa using h)
theorem riseL_all (xs : List Int) : (riseL xs).Pairwise (· < ·) ∧ ∀ x, x ∈ riseL xs ↔ x ∈ xs := by
  have h := compactUpTo_sorted (xs.mergeSort fun x y => decide (x ≤ y)).toArray (sorted_get _ (sort_sorted xs)) (xs.mergeSort fun x y => decide (x ≤ y)).length (by simp)
  refine ⟨h.1, fun x => ?_⟩
  have h3 := h.2.2 x
  show x ∈ Lib.compactUpTo _ _ ↔ _
  rw [h3]
  rw [← List.mem_mergeSort (le := fun x y : Int => decide (x ≤ y)) (l := xs)]
  generalize xs.mergeSort (fun x y => decide (x ≤ y)) = ys
  constructor
  · rintro ⟨j, hj, e⟩
    rw [getElem!_pos ys.toArray j (by simpa using hj)] at e
    rw [← e]; simp
  · intro hx
    obtain ⟨j, hj, e⟩ := List.getElem_of_mem hx
    exact ⟨j, hj, by rw [getElem!_pos ys.toArray j (by simpa using hj)]; simpa using e⟩
theorem riseL_sorted (xs : List Int) : (riseL xs).Pairwise (· < ·) := (riseL_all xs).1
theorem riseL_mem (xs : List Int) (x : Int) : x ∈ riseL xs ↔ x ∈ xs := (riseL_all xs).2 x
theorem riseL_contains (xs : List Int) (x : Int) : (riseL xs).contains x = xs.contains x := by
  rw [Bool.eq_iff_iff, List.contains_iff_mem, List.contains_iff_mem, riseL_mem]

/-- Two rising lists of the same numbers are one. -/
theorem sorted_unique : ∀ (a b : List Int), a.Pairwise (· < ·) → b.Pairwise (· < ·) → (∀ x, x ∈ a ↔ x ∈ b) → a = b
  | [], [], _, _, _ => rfl
  | [], y :: b, _, _, h => by have := (h y).2 (by simp); simp at this
  | x :: a, [], _, _, h => by have := (h x).1 (by simp); simp at this
  | x :: a, y :: b, ha, hb, h => by
    have ha2 := List.pairwise_cons.1 ha
    have hb2 := List.pairwise_cons.1 hb
    have hxy : x = y := by
      have h1 := (h x).1 (by simp)
      have h2 := (h y).2 (by simp)
      rw [List.mem_cons] at h1 h2
      rcases h1 with h1 | h1
      · exact h1
      · rcases h2 with h2 | h2
        · exact h2.symm
        · have := ha2.1 y h2; have := hb2.1 x h1; omega
    subst hxy
    congr 1
    refine sorted_unique a b ha2.2 hb2.2 fun z => ?_
    have hz := h z
    rw [List.mem_cons, List.mem_cons] at hz
    constructor
    · intro h1
      rcases hz.1 (Or.inr h1) with e | e
      · have := ha2.1 z h1; omega
      · exact e
    · intro h1
      rcases hz.2 (Or.inr h1) with e | e
      · have := hb2.1 z h1; omega
      · exact e
theorem riseL_eq {xs ys : List Int} (h : ys.Pairwise (· < ·)) (hm : ∀ x, x ∈ ys ↔ x ∈ xs) : riseL xs = ys :=
  sorted_unique _ _ (riseL_sorted xs) h fun x => by rw [riseL_mem, hm]

theorem nodup_of_sorted {xs : List Int} (h : xs.Pairwise (· < ·)) : xs.Nodup := h.imp (by intro a b h; omega)
theorem nodup_len_le : ∀ (a b : List Int), a.Nodup → (∀ x ∈ a, x ∈ b) → a.length ≤ b.length
  | [], b, _, _ => by simp
  | x :: a, b, ha, h => by
    have ha2 := List.nodup_cons.1 ha
    have hx := h x (by simp)
    have h1 := nodup_len_le a (b.erase x) ha2.2 (fun z hz => (List.mem_erase_of_ne (fun e => ha2.1 (by rw [← e]; exact hz))).2 (h z (by simp [hz])))
    have h2 := List.length_erase_of_mem hx
    have h3 := List.length_pos_of_mem hx
    rw [List.length_cons]; omega
theorem nodup_of_len : ∀ (b a : List Int), a.Nodup → (∀ x, x ∈ a ↔ x ∈ b) → b.length ≤ a.length → b.Nodup
  | [], a, _, _, _ => by simp
  | y :: b, a, ha, h, hl => by
    rw [List.length_cons] at hl
    by_cases hy : y ∈ b
    · have := nodup_len_le a b ha (fun x hx => by
        have h1 := (h x).1 hx
        rw [List.mem_cons] at h1
        rcases h1 with e | e
        · rw [e]; exact hy
        · exact e)
      omega
    · have hya : y ∈ a := (h y).2 (by simp)
      have h2 := List.length_erase_of_mem hya
      refine List.nodup_cons.2 ⟨hy, nodup_of_len b (a.erase y) (ha.erase y) (fun x => ?_) (by omega)⟩
      rw [ha.mem_erase_iff, h x, List.mem_cons]
      constructor
      · rintro ⟨n, e | e⟩
        · exact absurd e n
        · exact e
      · intro e
        exact ⟨fun c => hy (by rw [← c]; exact e), Or.inr e⟩
/-- As long as before: none stands twice. -/
theorem riseL_len (xs : List Int) : (riseL xs).length = xs.length ↔ xs.Nodup := by
  constructor
  · intro h
    have h1 := nodup_of_sorted (riseL_sorted xs)
    exact nodup_of_len xs (riseL xs) h1 (fun x => riseL_mem xs x) (by omega)
  · intro h
    have h1 := nodup_of_sorted (riseL_sorted xs)
    have hp : (riseL xs).Perm xs := (List.perm_ext_iff_of_nodup h1 h).2 (fun x => riseL_mem xs x)
    exact hp.length_eq

end Go.Proofs.YtagkgejdammflaaGreat
