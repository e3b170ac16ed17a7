/- Pure, for rule 10: the sections at a node rise; a point's three as the document tests them. -/
import Derived.Test.YtagkgejdammflaaGreatV11
import Derived.Test.YtagkgejdammflaaGreatSMath
namespace Go.Proofs.YtagkgejdammflaaGreat
set_option maxRecDepth 100000

/-- No section has both its ends at one node. -/
def Parted (L : Lay) : Prop := ∀ s ∈ L.secs, s.2.1 ≠ s.2.2

theorem parted_of {L : Lay} (h : Holds17 L 3) : Parted L := by
  intro z hz
  obtain ⟨p, hp, rfl⟩ := List.getElem_of_mem hz
  have h1 := h p hp
  have e : ruleB L 3 p = fitsSB L L.secs[p] := by show fitsSB L (L.secs.getD p (0, 0, 0)) = _; simp [hp]
  rw [e] at h1
  unfold fitsSB fitsB at h1
  simp only [Bool.and_eq_true, decide_eq_true_eq] at h1
  intro hh
  rw [hh] at h1
  rcases h1.2.2.2.2.1 with h2 | h2 <;> omega

theorem endsTo_rises (ss : List (Int × Int × Int)) (n : Int) (h : ∀ s ∈ ss, s.2.1 ≠ s.2.2) : ∀ k, k ≤ ss.length → ((endsTo ss n k).map (·.1)).Pairwise (· < ·)
  | 0, _ => by simp [endsTo]
  | k + 1, hk => by
    have ih := endsTo_rises ss n h k (by omega)
    have hs : (ss.getD k (0, 0, 0)).2.1 ≠ (ss.getD k (0, 0, 0)).2.2 := by
      have hkl : k < ss.length := by omega
      have := h ss[k] (List.getElem_mem hkl)
      simpa [hkl] using this
    rw [endsTo, List.map_append, List.pairwise_append]
    refine ⟨ih, ?_, ?_⟩
    · unfold endsAt
      by_cases h1 : (ss.getD k (0, 0, 0)).2.1 = n
      · have h2 : ¬ (ss.getD k (0, 0, 0)).2.2 = n := fun e => hs (h1.trans e.symm)
        rw [if_pos h1, if_neg h2]; simp
      · rw [if_neg h1]
        split <;> simp
    · intro a ha b hb
      obtain ⟨x, hx, rfl⟩ := List.mem_map.1 ha
      obtain ⟨y, hy, rfl⟩ := List.mem_map.1 hb
      obtain ⟨i, hi, hxi⟩ := endsTo_idx ss n x k hx
      have hyk : y.1 = (k : Int) := by
        unfold endsAt at hy
        rcases List.mem_append.1 hy with h3 | h3
        · split at h3
          · rw [List.mem_singleton] at h3; rw [h3]
          · simp at h3
        · split at h3
          · rw [List.mem_singleton] at h3; rw [h3]
          · simp at h3
      omega

theorem secsAt_rises {L : Lay} (h : Parted L) (n : Int) : (secsAt L n).Pairwise (· < ·) := endsTo_rises L.secs n h L.secs.length (Nat.le_refl _)

theorem rises_nodup {xs : List Int} (h : xs.Pairwise (· < ·)) : xs.Nodup := h.imp fun {a b} hab e => by omega

theorem sortL_rises {xs : List Int} (h : xs.Nodup) : (sortL xs).Pairwise (· < ·) := by
  have tr : ∀ a b c : Int, decide (a ≤ b) = true → decide (b ≤ c) = true → decide (a ≤ c) = true := fun a b c h1 h2 => by
    simp only [decide_eq_true_eq] at *; omega
  have tt : ∀ a b : Int, (decide (a ≤ b) || decide (b ≤ a)) = true := fun a b => by
    simp only [Bool.or_eq_true, decide_eq_true_eq]; omega
  have h1 := List.pairwise_mergeSort tr tt xs
  have h2 : (sortL xs).Nodup := (List.mergeSort_perm xs _).nodup_iff.2 h
  refine (h1.and h2).imp fun {a b} hab => ?_
  have := of_decide_eq_true hab.1
  have := hab.2
  omega

/-- A point's three are the sections at its node: what the document tests. -/
theorem joins_iff {L : Lay} (h : Parted L) (p : Int × Int × Int × Int) : joinsB L p = true ↔
    ((secsAt L p.1).length = 3 ∧ p.2.1 ∈ secsAt L p.1 ∧ p.2.2.1 ∈ secsAt L p.1 ∧ p.2.2.2 ∈ secsAt L p.1) ∧ p.2.1 ≠ p.2.2.1 ∧ p.2.1 ≠ p.2.2.2 ∧ p.2.2.1 ≠ p.2.2.2 := by
  have hr := secsAt_rises h p.1
  constructor
  · intro hj
    have e := of_decide_eq_true hj
    have hn : [p.2.1, p.2.2.1, p.2.2.2].Nodup := (List.mergeSort_perm _ _).nodup_iff.1 (by
      have := rises_nodup hr
      rw [← e] at this; exact this)
    refine ⟨⟨by rw [← e, sortL_len]; rfl, joins_mem hj⟩, ?_⟩
    simp only [List.nodup_cons, List.mem_cons, List.not_mem_nil, or_false, not_or] at hn
    exact ⟨hn.1.1, hn.1.2, hn.2.1⟩
  · rintro ⟨⟨hl, h1, h2, h3⟩, n1, n2, n3⟩
    have hn : [p.2.1, p.2.2.1, p.2.2.2].Nodup := by simp [n1, n2, n3]
    refine decide_eq_true (sorted_unique _ _ (sortL_rises hn) hr fun x => ?_)
    unfold sortL
    rw [List.mem_mergeSort]
    constructor
    · intro hx
      simp only [List.mem_cons, List.not_mem_nil, or_false] at hx
      rcases hx with rfl | rfl | rfl
      · exact h1
      · exact h2
      · exact h3
    · intro hx
      refine Classical.byContradiction fun hno => ?_
      have h4 : (x :: [p.2.1, p.2.2.1, p.2.2.2]).Nodup := List.nodup_cons.2 ⟨hno, hn⟩
      have h5 := h4.length_le_of_subset (l₂ := secsAt L p.1) (fun y hy => by
        simp only [List.mem_cons, List.not_mem_nil, or_false] at hy
        rcases hy with rfl | rfl | rfl | rfl
        · exact hx
        · exact h1
        · exact h2
        · exact h3)
      rw [hl] at h5
      simp at h5

end Go.Proofs.YtagkgejdammflaaGreat
