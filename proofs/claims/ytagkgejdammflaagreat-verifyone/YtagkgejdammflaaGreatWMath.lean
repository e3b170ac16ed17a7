/- Pure: the document's Walk. -/
import Derived.Test.YtagkgejdammflaaGreatRA
namespace Go.Proofs.YtagkgejdammflaaGreat
open Go.RowKit Fl
set_option maxRecDepth 100000

theorem endsAt_snd (ss : List (Int × Int × Int)) (n : Int) (i : Nat) : ∀ e ∈ endsAt ss n i, e.2 = 0 ∨ e.2 = 1 := by
  intro e he
  unfold endsAt at he
  rcases List.mem_append.1 he with h | h
  · split at h
    · rw [List.mem_singleton] at h; rw [h]; exact Or.inl rfl
    · simp at h
  · split at h
    · rw [List.mem_singleton] at h; rw [h]; exact Or.inr rfl
    · simp at h
theorem endsTo_snd (ss : List (Int × Int × Int)) (n : Int) : ∀ k, ∀ e ∈ endsTo ss n k, e.2 = 0 ∨ e.2 = 1
  | 0, e, he => by simp [endsTo] at he
  | k + 1, e, he => by
    rcases List.mem_append.1 he with h | h
    · exact endsTo_snd ss n k e h
    · exact endsAt_snd ss n k e h
theorem oneL_snd (ss : List (Int × Int × Int)) (s n : Int) : ∀ e ∈ oneL ss s n, e.2 = 0 ∨ e.2 = 1 := by
  intro e he
  rw [oneL_eq] at he
  exact endsTo_snd ss n _ e (List.mem_filter.1 (List.mem_of_mem_take he)).1
theorem aroundL_snd (L : Lay) (e : Int × Int) : ∀ x ∈ aroundL L e, x.2 = 0 ∨ x.2 = 1 := by
  intro x hx
  unfold aroundL at hx
  split at hx
  · simp at hx
  · split at hx
    · simp only at hx
      unfold throughL at hx
      split at hx
      · obtain ⟨s, _, h⟩ := List.mem_flatMap.1 hx
        exact oneL_snd _ _ _ x h
      · split at hx
        · exact oneL_snd _ _ _ x hx
        · simp at hx
    · have : ∀ es : List (Int × Int), (∀ y ∈ es, y.2 = 0 ∨ y.2 = 1) → ∀ y ∈ acrossL es e, y.2 = 0 ∨ y.2 = 1 := by
        intro es hes y hy
        unfold acrossL at hy
        split at hy
        · split at hy
          · rw [List.mem_singleton] at hy; rw [hy]; exact hes _ (by simp)
          · rw [List.mem_singleton] at hy; rw [hy]; exact hes _ (by simp)
        · simp at hy
      exact this _ (endsTo_snd _ _ _) x hx

/-- Which of 'n' ways is taken, at the step 'i'. -/
def turnK (ts : List Nat) (i n : Nat) : Nat := if i < ts.length then ts.getD i 0 % n else 0
theorem turnK_lt (ts : List Nat) (i n : Nat) (h : 0 < n) : turnK ts i n < n := by
  unfold turnK; split
  · exact Nat.mod_lt _ h
  · exact h

def walkGo (L : Lay) (ts : List Nat) (m : Nat) : Nat → Nat → List Int → Int × Int → List Int
  | 0, _, o, _ => o
  | f + 1, i, o, e => if m ≤ o.length then o else
      match (aroundL L e)[turnK ts i (aroundL L e).length]? with
      | none => o
      | some x => if o.contains x.1 then o else walkGo L ts m f (i + 1) (o ++ [x.1]) (x.1, 1 - x.2)
/-- The sections of a walk. -/
def walkL (L : Lay) (s k : Int) (ts : List Nat) (m : Nat) : List Int := walkGo L ts m m 0 [s] (s, k)

theorem walk_stop {L : Lay} {ts : List Nat} {m f i : Nat} {o : List Int} {e : Int × Int} (h : m ≤ o.length) : walkGo L ts m f i o e = o := by
  cases f with
  | zero => rfl
  | succ f => rw [walkGo, if_pos h]
theorem walk_none {L : Lay} {ts : List Nat} {m f i : Nat} {o : List Int} {e : Int × Int} (h : (aroundL L e).length = 0) : walkGo L ts m f i o e = o := by
  cases f with
  | zero => rfl
  | succ f =>
    rw [walkGo]
    have : aroundL L e = [] := List.length_eq_zero_iff.1 h
    rw [this]; simp
theorem walk_step {L : Lay} {ts : List Nat} {m f i : Nat} {o : List Int} {e : Int × Int} (hm : ¬ m ≤ o.length) (hf : 0 < f) (h : turnK ts i (aroundL L e).length < (aroundL L e).length) :
    walkGo L ts m f i o e = if o.contains (aroundL L e)[turnK ts i (aroundL L e).length].1 then o else walkGo L ts m (f - 1) (i + 1) (o ++ [(aroundL L e)[turnK ts i (aroundL L e).length].1]) ((aroundL L e)[turnK ts i (aroundL L e).length].1, 1 - (aroundL L e)[turnK ts i (aroundL L e).length].2) := by
  cases f with
  | zero => omega
  | succ f => rw [walkGo, if_neg hm, List.getElem?_eq_getElem h]; rfl

theorem walkGo_len (L : Lay) (ts : List Nat) (m : Nat) : ∀ f i o e, o.length ≤ m → (walkGo L ts m f i o e).length ≤ m
  | 0, i, o, e, h => h
  | f + 1, i, o, e, h => by
    rw [walkGo]
    split
    · exact h
    · split
      · exact h
      · split
        · exact h
        · exact walkGo_len L ts m f _ _ _ (by simp; omega)
theorem walkL_len (L : Lay) (s k : Int) (ts : List Nat) (m : Nat) (h : 1 ≤ m) : (walkL L s k ts m).length ≤ m := walkGo_len L ts m m 0 [s] (s, k) (by simpa using h)

end Go.Proofs.YtagkgejdammflaaGreat
