/- Pure: the one other end, as the document finds it. -/
import Derived.Test.YtifcgkpannlnnaaR3
namespace Go.Proofs.Ytifcgkpannlnnaa
open Go.RowKit Fl
set_option maxRecDepth 100000

theorem endsTo_lt (ss : List (Int × Int × Int)) (n : Int) : ∀ k, ∀ e ∈ endsTo ss n k, e.1 < (k : Int)
  | 0 => by intro e he; simp [endsTo] at he
  | k + 1 => by
    intro e he
    rw [endsTo, List.mem_append] at he
    rcases he with h | h
    · have := endsTo_lt ss n k e h; omega
    · have := endsAt_fst ss n k e h; omega

theorem endsAt_nodup (ss : List (Int × Int × Int)) (n : Int) (i : Nat) : (endsAt ss n i).Nodup := by
  unfold endsAt; split <;> split <;> simp

theorem endsTo_nodup (ss : List (Int × Int × Int)) (n : Int) : ∀ k, (endsTo ss n k).Nodup
  | 0 => by simp [endsTo]
  | k + 1 => by
    rw [endsTo, List.nodup_append]
    refine ⟨endsTo_nodup ss n k, endsAt_nodup ss n k, ?_⟩
    intro a ha b hb e
    subst e
    have h1 := endsTo_lt ss n k a ha
    have h2 := endsAt_fst ss n k a hb
    omega

theorem endsTo_mem (ss : List (Int × Int × Int)) (n : Int) (i : Nat) (e : Int × Int) (h : e ∈ endsAt ss n i) : ∀ k, i < k → e ∈ endsTo ss n k
  | 0, hk => absurd hk (by omega)
  | k + 1, hk => by
    rw [endsTo, List.mem_append]
    rcases Nat.lt_or_ge i k with c | c
    · exact Or.inl (endsTo_mem ss n i e h k c)
    · have : i = k := by omega
      subst this
      exact Or.inr h

theorem node_mem {ss : List (Int × Int × Int)} {e : Int × Int} {n : Int} (h : nodeL ss e = some n) : e ∈ endsL ss n := by
  obtain ⟨s, k⟩ := e
  unfold nodeL at h
  simp only at h
  cases hb : hasB ss s with
  | false => rw [hb] at h; simp at h
  | true =>
    obtain ⟨i, rfl, hi⟩ := hasB_nat hb
    rw [hb] at h
    simp only [if_true, Int.toNat_natCast] at h
    refine endsTo_mem ss n i _ ?_ ss.length hi
    unfold endsAt
    by_cases h0 : k = 0
    · rw [if_pos h0] at h
      injection h with h
      subst h0
      rw [if_pos h]; simp
    · rw [if_neg h0] at h
      by_cases h1 : k = 1
      · rw [if_pos h1] at h
        injection h with h
        subst h1
        rw [if_pos h]; simp
      · rw [if_neg h1] at h; cases h

/-- All but one. -/
def butL (es : List (Int × Int)) (e : Int × Int) : List (Int × Int) := es.filter (fun x => decide (x ≠ e))

theorem across_eq {es : List (Int × Int)} {e : Int × Int} (hn : es.Nodup) (hm : e ∈ es) : acrossL es e = if (butL es e).length = 1 then butL es e else [] := by
  have hl : (butL es e).length = es.length - 1 := by
    have h1 : butL es e = es.erase e := by
      rw [hn.erase_eq_filter]; unfold butL
      apply List.filter_congr
      intro x _
      by_cases hx : x = e <;> simp [hx]
    rw [h1, List.length_erase_of_mem hm]
  match es, hn, hm, hl with
  | [a], _, hm, hl =>
    have h0 : (butL [a] e).length = 0 := hl
    rw [if_neg (by omega)]; rfl
  | [a, b], hn, hm, hl =>
    have h1 : (butL [a, b] e).length = 1 := hl
    rw [if_pos h1]
    have hab : a ≠ b := by simp at hn; exact hn
    show (if a = e then [b] else [a]) = _
    unfold butL
    by_cases h : a = e
    · subst h
      rw [if_pos rfl]
      simp [Ne.symm hab]
    · have hb : b = e := by
        simp at hm
        rcases hm with h1 | h1
        · exact absurd h1.symm h
        · exact h1.symm
      subst hb
      rw [if_neg h]
      simp [hab]
  | a :: b :: c :: r, _, _, hl =>
    have h2 : (butL (a :: b :: c :: r) e).length = r.length + 2 := hl
    rw [if_neg (by omega)]
    rfl

theorem pointL_node {ps : List (Int × Int × Int × Int)} {n : Int} {i : Nat} (h : pointL ps n = (i : Int)) (hi : i < ps.length) : ps[i].1 = n := by
  unfold pointL at h
  cases e : ps.findIdx? (fun p => decide (p.1 = n)) with
  | none =>
    rw [e] at h
    have h2 : (-1 : Int) = (i : Int) := h
    omega
  | some j =>
    rw [e] at h
    have h2 : (j : Int) = (i : Int) := h
    have hji : j = i := by omega
    subst hji
    rw [List.findIdx?_eq_some_iff_getElem] at e
    obtain ⟨_, h2, _⟩ := e
    simpa using h2

theorem butL_take (es : List (Int × Int)) (e : Int × Int) (i : Nat) (h : i < es.length) : butL (es.take (i + 1)) e = butL (es.take i) e ++ (if es[i] = e then [] else [es[i]]) := by
  unfold butL
  rw [List.take_succ_eq_append_getElem h, List.filter_append]
  by_cases hx : es[i] = e <;> simp [hx]

theorem butL_le (es : List (Int × Int)) (e : Int × Int) : (butL es e).length ≤ es.length := List.length_filter_le _ _

theorem neq_end (a b c d : Int) (w : World) : (binOp .neq 85 (.agg #[.int .i64 a, .int .i64 b]) (.agg #[.int .i64 c, .int .i64 d])).run Try.prog w = .ok (.bool (!(a == c && b == d))) w := by
  rw [run_neq_struct, run_equalIn_struct w 9999 85 _ _ (by kernel_rfl) (by kernel_rfl)]
  simp [Program.fieldsOf, Try.underlying85, go_sem]
  by_cases h : a = c
  · by_cases h2 : b = d <;> simp [h, h2]
  · simp [h]

end Go.Proofs.Ytifcgkpannlnnaa
