/- Pure: each section of a draft's track is in a part. -/
import Derived.Test.YtblbbdkpebacbaaDoorQ1
namespace Go.Proofs.YtblbbdkpebacbaaDoor
open Go.RowKit Fl
set_option maxRecDepth 100000

theorem makeParts_all (d : Dr) : ∀ n i, i < n → ∃ r ∈ makeParts d n, (i : Int) ∈ r
  | 0, i, h => absurd h (by omega)
  | n + 1, i, h => by
    by_cases hj : joins d n = true
    · rw [makeParts_join hj]
      have hp : 0 < n := by unfold joins at hj; simp at hj; exact hj.1
      have hpos := makeParts_pos d n hp
      have ih := makeParts_all d n
      unfold putLast
      cases e : (makeParts d n).getLast? with
      | none => simp at e; rw [e] at hpos; simp at hpos
      | some z =>
        have hsp : makeParts d n = (makeParts d n).dropLast ++ [z] := by
          have hne : makeParts d n ≠ [] := by intro c; rw [c] at hpos; simp at hpos
          have h1 := List.dropLast_concat_getLast hne
          rw [List.getLast?_eq_some_getLast hne] at e
          injection e with e
          rw [← e]; exact h1.symm
        rcases Nat.lt_or_ge i n with c | c
        · obtain ⟨r, hr, hi⟩ := ih i c
          rw [hsp] at hr
          rcases List.mem_append.1 hr with c1 | c1
          · exact ⟨r, List.mem_append_left _ c1, hi⟩
          · rw [List.mem_singleton] at c1
            subst c1
            exact ⟨_, List.mem_append_right _ (List.mem_singleton.2 rfl), by simp [hi]⟩
        · have : i = n := by omega
          subst this
          exact ⟨_, List.mem_append_right _ (List.mem_singleton.2 rfl), by simp⟩
    · rw [makeParts_new hj]
      rcases Nat.lt_or_ge i n with c | c
      · obtain ⟨r, hr, hi⟩ := makeParts_all d n i c
        exact ⟨r, List.mem_append_left _ hr, hi⟩
      · have : i = n := by omega
        subst this
        exact ⟨[(i : Int)], List.mem_append_right _ (List.mem_singleton.2 rfl), by simp⟩
theorem partL_nonneg {ps : List (List Int)} {s : Int} (h : ∃ r ∈ ps, s ∈ r) : 0 ≤ partL ps s := by
  unfold partL
  cases e : ps.findIdx? (fun p => p.contains s) with
  | none =>
    rw [List.findIdx?_eq_none_iff] at e
    obtain ⟨r, hr, hs⟩ := h
    have := e r hr
    simp at this
    exact absurd hs this
  | some i => simp only; omega
theorem full_part (d : Dr) (i : Nat) (h : i < (fullL d).secs.length) : 0 ≤ partL (fullL d).parts (i : Int) := by
  have e : (fullL d).secs.length = (makeEnds d).length := makeSecs_len d _ _
  exact partL_nonneg (makeParts_all d _ i (by omega))
end Go.Proofs.YtblbbdkpebacbaaDoor
