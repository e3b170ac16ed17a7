/- Layer 11, the pure side: it grows, holds none twice. -/
import Derived.Test.YtbomkifnhkmkoaaCM
namespace Go.Proofs.Ytbomkifnhkmkoaa
open Go.RowKit Fl
set_option maxRecDepth 100000

theorem goA_ext (L : Lay) (R : List Bool) (tr : List Int) : ∀ f e m acc, ∃ s, (goA L R tr f e m acc).1 = acc ++ s
  | 0, e, m, acc => ⟨[], by simp [goA]⟩
  | f + 1, e, m, acc => by
    rw [goA]
    split
    · exact ⟨[], by simp⟩
    · split
      · exact ⟨[], by simp⟩
      · split
        · exact ⟨[], by simp⟩
        · rename_i x _ _
          obtain ⟨s, hs⟩ := goA_ext L R tr f (x.1, 1 - x.2) (m - lenL L.secs x.1) (acc ++ [x.1])
          exact ⟨x.1 :: s, by rw [hs]; simp⟩

theorem goA_mono (L : Lay) (R : List Bool) (tr : List Int) : ∀ f e m m' acc, m ≤ m' → ∃ s, (goA L R tr f e m' acc).1 = (goA L R tr f e m acc).1 ++ s
  | 0, e, m, m', acc, h => ⟨[], by simp [goA]⟩
  | f + 1, e, m, m', acc, h => by
    by_cases hm : m ≤ 0
    · obtain ⟨s, hs⟩ := goA_ext L R tr (f + 1) e m' acc
      refine ⟨s, ?_⟩
      rw [hs]
      congr 1
      rw [goA, if_pos hm]
    · rw [goA, goA, if_neg hm, if_neg (by omega)]
      split
      · exact ⟨[], by simp⟩
      · split
        · exact ⟨[], by simp⟩
        · exact goA_mono L R tr f _ _ _ _ (by omega)

theorem goA_all {L : Lay} (T : Tame L) (R : List Bool) (tr : List Int) : ∀ f e m acc, okE L e → acc.Nodup → (∀ x ∈ acc, InR L x) → (∀ x ∈ acc, x ∉ tr) →
    (goA L R tr f e m acc).1.Nodup ∧ (∀ x ∈ (goA L R tr f e m acc).1, InR L x) ∧ ∀ x ∈ (goA L R tr f e m acc).1, x ∉ tr
  | 0, e, m, acc, _, h1, h2, h3 => ⟨h1, h2, h3⟩
  | f + 1, e, m, acc, ok, h1, h2, h3 => by
    rw [goA]
    split
    · exact ⟨h1, h2, h3⟩
    · split
      · exact ⟨h1, h2, h3⟩
      · split
        · exact ⟨h1, h2, h3⟩
        · rename_i x hn hc
          have hk := okE_next T ok (next_mem hn)
          have hx : InR L x.1 := by obtain ⟨s, e1, e2, -⟩ := hk.1; exact ⟨s, e1, e2⟩
          simp only [Bool.or_eq_true, List.contains_iff_mem, not_or] at hc
          refine goA_all T R tr f _ _ _ hk.2 ?_ ?_ ?_
          · rw [List.nodup_append]
            refine ⟨h1, by simp, ?_⟩
            intro a ha b hb
            simp only [List.mem_singleton] at hb
            subst hb
            intro e'; subst e'; exact hc.2 ha
          · intro y hy
            rcases List.mem_append.1 hy with hy | hy
            · exact h2 y hy
            · simp only [List.mem_singleton] at hy; subst hy; exact hx
          · intro y hy
            rcases List.mem_append.1 hy with hy | hy
            · exact h3 y hy
            · simp only [List.mem_singleton] at hy; subst hy; exact hc.1

/-- Where a train may be. -/
def spanL (L : Lay) (R : List Bool) (tr : List Int) (d m : Int) : List Int := (aheadL L R tr d m).1.reverse ++ tr

theorem ahead_len {L : Lay} (T : Tame L) (R : List Bool) {tr : List Int} {d : Int} (m : Int) (ok : okE L (tr.getD 0 0, d)) : (aheadL L R tr d m).1.length ≤ L.secs.length := by
  unfold aheadL
  split
  · simp
  · have h := goA_all T R tr (L.secs.length + 1) (tr.getD 0 0, d) m [] ok (by simp) (by simp) (by simp)
    exact inR_len h.1 h.2.1
theorem ahead_still {L : Lay} {R : List Bool} {tr : List Int} {d m : Int} (h0 : tr.length ≠ 0) (hm : m ≤ 0) : aheadL L R tr d m = ([], (tr.getD 0 0, d)) := by
  unfold aheadL; rw [if_neg h0, goA, if_pos hm]
theorem span_still {L : Lay} {R : List Bool} {tr : List Int} {d m : Int} (h0 : tr.length ≠ 0) (hm : m ≤ 0) : spanL L R tr d m = tr := by
  unfold spanL; rw [ahead_still h0 hm]; rfl
theorem span_mono (L : Lay) (R : List Bool) (tr : List Int) (d : Int) {m m' : Int} (h : m ≤ m') : ∃ s, spanL L R tr d m' = s ++ spanL L R tr d m := by
  unfold spanL aheadL
  split
  · exact ⟨[], by simp⟩
  · obtain ⟨s, hs⟩ := goA_mono L R tr (L.secs.length + 1) (tr.getD 0 0, d) m m' [] h
    exact ⟨s.reverse, by rw [hs]; simp⟩
theorem span_nodup {L : Lay} (T : Tame L) (R : List Bool) {tr : List Int} {d : Int} (m : Int) (ok : okE L (tr.getD 0 0, d)) (hn : tr.Nodup) : (spanL L R tr d m).Nodup := by
  unfold spanL aheadL
  split
  · simpa using hn
  · have h := goA_all T R tr (L.secs.length + 1) (tr.getD 0 0, d) m [] ok (by simp) (by simp) (by simp)
    rw [List.nodup_append]
    refine ⟨List.pairwise_reverse.2 (h.1.imp fun hab => Ne.symm hab), hn, ?_⟩
    intro a ha b hb e'
    subst e'
    exact h.2.2 a (List.mem_reverse.1 ha) hb

end Go.Proofs.Ytbomkifnhkmkoaa
