/- Pure: a trail, and what may be behind it. -/
import Derived.Lib.Slices
namespace Go.Proofs.YtblbbdkpebacbaaDoor

/-- Where what is behind begins. -/
def fromL (t was : List Int) : Nat := match t.getLast? with
  | none => 0
  | some x => match was.findIdx? (fun y => y == x) with
    | none => 0
    | some i => i + 1
def addL (o : List Int) (x : Int) : List Int := if o.contains x then o else o ++ [x]
def joinTo (t bs : List Int) (k : Nat) : List Int := (bs.take k).foldl addL t
/-- A trail, and what may be behind it. -/
def joinL (t was : List Int) : List Int := (was.drop (fromL t was)).foldl addL t

theorem joinTo_zero (t bs : List Int) : joinTo t bs 0 = t := rfl
theorem joinTo_succ (t bs : List Int) (k : Nat) (h : k < bs.length) : joinTo t bs (k + 1) = addL (joinTo t bs k) bs[k] := by
  unfold joinTo; rw [List.take_succ_eq_append_getElem h, List.foldl_append]; rfl
theorem joinTo_end (t was : List Int) (k : Nat) (h : (was.drop (fromL t was)).length ≤ k) : joinTo t (was.drop (fromL t was)) k = joinL t was := by
  unfold joinTo joinL; rw [List.take_of_length_le h]
theorem addL_mem (o : List Int) (x y : Int) : y ∈ addL o x ↔ y ∈ o ∨ y = x := by
  unfold addL
  split
  · rename_i h
    have h2 := List.contains_iff_mem.1 h
    constructor
    · exact Or.inl
    · rintro (c | rfl)
      · exact c
      · exact h2
  · simp
theorem addL_nodup {o : List Int} (x : Int) (h : o.Nodup) : (addL o x).Nodup := by
  unfold addL
  split
  · exact h
  · rename_i c
    have c2 : x ∉ o := fun e => c (List.contains_iff_mem.2 e)
    rw [List.nodup_append]
    refine ⟨h, by simp, fun a ha b hb e => ?_⟩
    rw [List.mem_singleton] at hb
    subst hb; subst e; exact c2 ha
theorem addL_le (o : List Int) (x : Int) : o.length ≤ (addL o x).length ∧ (addL o x).length ≤ o.length + 1 := by
  unfold addL; split <;> simp
theorem foldl_nodup : ∀ (bs : List Int) {o : List Int}, o.Nodup → (bs.foldl addL o).Nodup
  | [], _, h => h
  | b :: r, _, h => foldl_nodup r (addL_nodup b h)
theorem foldl_mem : ∀ (bs : List Int) (o : List Int) (y : Int), y ∈ bs.foldl addL o ↔ y ∈ o ∨ y ∈ bs
  | [], o, y => by simp
  | b :: r, o, y => by
    rw [List.foldl_cons, foldl_mem r, addL_mem, List.mem_cons]
    constructor
    · rintro ((h | h) | h)
      · exact .inl h
      · exact .inr (.inl h)
      · exact .inr (.inr h)
    · rintro (h | h | h)
      · exact .inl (.inl h)
      · exact .inl (.inr h)
      · exact .inr h
theorem foldl_ge : ∀ (bs : List Int) (o : List Int), o.length ≤ (bs.foldl addL o).length ∧ (bs.foldl addL o).length ≤ o.length + bs.length
  | [], o => by simp
  | b :: r, o => by
    have h1 := addL_le o b
    have h2 := foldl_ge r (addL o b)
    rw [List.foldl_cons, List.length_cons]; omega
theorem joinTo_le (t bs : List Int) (k : Nat) : t.length ≤ (joinTo t bs k).length ∧ (joinTo t bs k).length ≤ t.length + k := by
  have h := foldl_ge (bs.take k) t
  have h2 : (bs.take k).length ≤ k := by simp; omega
  unfold joinTo; omega
theorem joinL_nodup {t : List Int} (was : List Int) (h : t.Nodup) : (joinL t was).Nodup := foldl_nodup _ h
theorem joinL_ge (t was : List Int) : t.length ≤ (joinL t was).length := (foldl_ge _ t).1
theorem joinL_le (t was : List Int) : (joinL t was).length ≤ t.length + was.length := by
  have h := (foldl_ge (was.drop (fromL t was)) t).2
  have h2 : (was.drop (fromL t was)).length ≤ was.length := by simp
  unfold joinL; omega

theorem getLast_getD (t : List Int) (h : 0 < t.length) : t.getLast? = some (t.getD (t.length - 1) 0) := by
  rw [List.getLast?_eq_getElem?]
  simp [List.getD, List.getElem?_eq_getElem (show t.length - 1 < t.length by omega)]
theorem fromL_nil (was : List Int) : fromL [] was = 0 := rfl
theorem fromL_none {t was : List Int} (h : ∀ j (_ : j < was.length), was[j] ≠ t.getD (t.length - 1) 0) : fromL t was = 0 := by
  rcases Nat.eq_zero_or_pos t.length with c | c
  · rw [List.length_eq_zero_iff.1 c]; rfl
  · unfold fromL
    rw [getLast_getD t c]
    simp only
    have : was.findIdx? (fun y => y == t.getD (t.length - 1) 0) = none := by
      rw [List.findIdx?_eq_none_iff]
      intro x hx
      obtain ⟨j, hj, rfl⟩ := List.getElem_of_mem hx
      simpa using h j hj
    rw [this]
theorem fromL_some {t was : List Int} (ht : 0 < t.length) {i : Nat} (hi : i < was.length) (he : was[i] = t.getD (t.length - 1) 0) (h : ∀ j (_ : j < i), was[j] ≠ t.getD (t.length - 1) 0) : fromL t was = i + 1 := by
  unfold fromL
  rw [getLast_getD t ht]
  simp only
  have : was.findIdx? (fun y => y == t.getD (t.length - 1) 0) = some i := by
    rw [List.findIdx?_eq_some_iff_getElem]
    exact ⟨hi, by simpa using he, fun j hj => by simpa using h j hj⟩
  rw [this]
theorem fromL_cases (t was : List Int) : (fromL t was = 0 ∧ (t.length = 0 ∨ ∀ j (_ : j < was.length), was[j] ≠ t.getD (t.length - 1) 0)) ∨ (0 < t.length ∧ ∃ i, ∃ hi : i < was.length, fromL t was = i + 1 ∧ was[i] = t.getD (t.length - 1) 0 ∧ ∀ j (_ : j < i), was[j] ≠ t.getD (t.length - 1) 0) := by
  rcases Nat.eq_zero_or_pos t.length with c | c
  · exact .inl ⟨by rw [List.length_eq_zero_iff.1 c]; rfl, .inl c⟩
  · cases e : was.findIdx? (fun y => y == t.getD (t.length - 1) 0) with
    | none =>
      rw [List.findIdx?_eq_none_iff] at e
      have h : ∀ j (_ : j < was.length), was[j] ≠ t.getD (t.length - 1) 0 := fun j hj => by simpa using e _ (List.getElem_mem hj)
      exact .inl ⟨fromL_none h, .inr h⟩
    | some i =>
      rw [List.findIdx?_eq_some_iff_getElem] at e
      obtain ⟨hi, h1, h2⟩ := e
      have h1' : was[i] = t.getD (t.length - 1) 0 := by simpa using h1
      have h2' : ∀ j (_ : j < i), was[j] ≠ t.getD (t.length - 1) 0 := fun j hj => by simpa using h2 j hj
      exact .inr ⟨c, i, hi, fromL_some c hi h1' h2', h1', h2'⟩
theorem fromL_le (t was : List Int) : fromL t was ≤ was.length := by
  rcases fromL_cases t was with ⟨h, _⟩ | ⟨_, i, hi, h, _⟩ <;> omega
/-- What 'slices.Index' answers, and one more. -/
theorem fromL_idx (t was : List Int) (ht : 0 < t.length) : Lib.idxOf (was.take was.length) (t.getD (t.length - 1) 0) + 1 = (fromL t was : Int) := by
  rcases fromL_cases t was with ⟨h, h2⟩ | ⟨_, i, hi, h, h1, h2⟩
  · rw [h]
    rcases h2 with c | c
    · omega
    · rw [Lib.idxOf_miss was was.length _ (fun j hj => by
        have e : was.getD j 0 = was[j] := by simp [List.getD, hj]
        rw [e]; exact c j hj)]
      rfl
  · rw [h, Lib.idxOf_hit was was.length i _ hi (Nat.le_refl _) (by
      have e : was.getD i 0 = was[i] := by simp [List.getD, hi]
      rw [e]; exact h1) (fun j hj => by
      have e : was.getD j 0 = was[j] := by simp [List.getD, Nat.lt_trans hj hi]
      rw [e]; exact h2 j hj)]
    rfl
/-- Nothing is lost that stood behind the last section's last place. -/
theorem join_has (t was : List Int) (i : Nat) (hi : i < was.length) (hb : ∀ j (_ : j < was.length), i ≤ j → 0 < t.length → was[j] ≠ t.getD (t.length - 1) 0) : (joinL t was).contains was[i] = true := by
  rw [List.contains_iff_mem]
  unfold joinL
  rw [foldl_mem]
  right
  have hf : fromL t was ≤ i := by
    rcases fromL_cases t was with ⟨h, _⟩ | ⟨hp, k, hk, h, h1, _⟩
    · omega
    · rw [h]
      refine Nat.succ_le_of_lt (Nat.lt_of_not_le fun c => ?_)
      exact hb k hk c hp h1
  rw [List.mem_iff_getElem]
  exact ⟨i - fromL t was, by simp; omega, by simp [List.getElem_drop, Nat.add_sub_cancel' hf]⟩

end Go.Proofs.YtblbbdkpebacbaaDoor
