/- What is known of an owner. -/
import Derived.Test.YthnjilbfkfekhaaS1
namespace Go.Proofs.Ythnjilbfkfekhaa
open Go.RowKit Fl
set_option maxRecDepth 100000

theorem fold_sole (was : List Int) (r : Int) (hr : 0 ≤ r) : ∀ (bs : List Int) (a : Int), foldO was a bs = r → (a = r ∨ a = -2) ∧ (∀ b ∈ bs, was.getD b.toNat 0 = r ∨ was.getD b.toNat 0 = -2) ∧ (a = r ∨ ∃ b ∈ bs, was.getD b.toNat 0 = r)
  | [], a, h => by
    have h' : a = r := h
    exact ⟨Or.inl h', (fun b hb => by simp at hb), Or.inl h'⟩
  | b :: bs, a, h => by
    obtain ⟨h1, h2, h3⟩ := fold_sole was r hr bs (togO a (was.getD b.toNat 0)) h
    generalize ho : was.getD b.toNat 0 = o at *
    have hm : ∀ P : Int → Prop, P b → (∀ c ∈ bs, P c) → ∀ c ∈ b :: bs, P c := fun P hb hbs c hc => by
      rcases List.mem_cons.1 hc with e | e
      · rw [e]; exact hb
      · exact hbs c e
    unfold togO at h1 h3
    by_cases ha : a = -2
    · rw [if_pos ha] at h1 h3
      refine ⟨Or.inr ha, hm _ (by rw [ho]; exact h1) h2, Or.inr ?_⟩
      rcases h3 with e | ⟨c, hc, e⟩
      · exact ⟨b, List.mem_cons_self .., by rw [ho]; exact e⟩
      · exact ⟨c, List.mem_cons_of_mem _ hc, e⟩
    · rw [if_neg ha] at h1 h3
      by_cases hb : o = -2 ∨ a = o
      · rw [if_pos hb] at h1 h3
        have har : a = r := by rcases h1 with e | e; exact e; exact absurd e ha
        refine ⟨Or.inl har, hm _ ?_ h2, Or.inl har⟩
        rw [ho]
        rcases hb with e | e
        · exact Or.inr e
        · exact Or.inl (by rw [← e]; exact har)
      · rw [if_neg hb] at h1
        clear h2 h3 hm
        exfalso
        rcases h1 with e | e <;> omega

theorem part_empty (L : Lay) (was : List Int) (clr : List Bool) (xs : List Vw) (p : Nat) : (partO L was clr xs p == -2) = clr.getD p false := by
  unfold partO
  cases h : clr.getD p false with
  | true => rw [if_pos rfl]; rfl
  | false =>
    rw [if_neg (by decide)]
    split
    · rename_i h1
      have := h1.1
      rw [beq_eq_false_iff_ne]; omega
    · rfl
theorem part_dark2 (L : Lay) (was : List Int) (clr : List Bool) (xs : List Vw) (p : Nat) (hw : was.getD p 0 = -1) (hc : clr.getD p false = false) : partO L was clr xs p = -1 := by
  unfold partO
  rw [hc, if_neg (by decide)]
  unfold whoO
  rw [hw, foldO_one, if_neg (fun h => absurd h.1 (by decide))]
theorem part_sole (L : Lay) (was : List Int) (clr : List Bool) (xs : List Vw) (p : Nat) (h : 0 ≤ partO L was clr xs p) :
    (∃ v, findV xs (partO L was clr xs p) = some v ∧ v.2.1 = true ∧ meetsB (L.parts.getD p []) v.2.2 = true) ∧ (∀ b ∈ besideL L (p : Int), was.getD b.toNat 0 = partO L was clr xs p ∨ was.getD b.toNat 0 = -2) ∧ (was.getD p 0 = partO L was clr xs p ∨ ∃ b ∈ besideL L (p : Int), was.getD b.toNat 0 = partO L was clr xs p) := by
  by_cases hc : clr.getD p false = true
  · exfalso
    unfold partO at h
    rw [if_pos hc] at h
    omega
  · by_cases hw : 0 ≤ whoO L was p ∧ holdsB xs (L.parts.getD p []) (whoO L was p) = true
    · have e : partO L was clr xs p = whoO L was p := by unfold partO; rw [if_neg hc, if_pos hw]
      rw [e]
      obtain ⟨h1, h2, h3⟩ := fold_sole was (whoO L was p) hw.1 (besideL L (p : Int)) (was.getD p 0) rfl
      refine ⟨?_, h2, h3⟩
      have hh := hw.2
      unfold holdsB at hh
      cases hf : findV xs (whoO L was p) with
      | none => rw [hf] at hh; cases hh
      | some v =>
        rw [hf] at hh
        have hh' : (v.2.1 && meetsB v.2.2 (L.parts.getD p [])) = true := hh
        rw [Bool.and_eq_true] at hh'
        exact ⟨v, rfl, hh'.1, by rw [meets_comm]; exact hh'.2⟩
    · exfalso
      unfold partO at h
      rw [if_neg hc, if_neg hw] at h
      omega

/-- Has it been found, so far? -/
def fndO (was : List Int) (c0 : Bool) (x : Int) (bs : List Int) (k : Nat) : Bool := c0 || (bs.take k).any (fun b => was.getD b.toNat 0 == x)
theorem fndO_succ (was : List Int) (c0 : Bool) (x : Int) (bs : List Int) (k : Nat) (h : k < bs.length) : fndO was c0 x bs (k + 1) = (fndO was c0 x bs k || (was.getD bs[k].toNat 0 == x)) := by
  unfold fndO
  rw [List.take_succ_eq_append_getElem h, List.any_append, Bool.or_assoc]; simp
theorem fndO_all (was : List Int) (p : Nat) (x : Int) (bs : List Int) (h : was.getD p 0 = x ∨ ∃ b ∈ bs, was.getD b.toNat 0 = x) : fndO was (was.getD p 0 == x) x bs bs.length = true := by
  unfold fndO
  rw [List.take_length, Bool.or_eq_true]
  rcases h with e | ⟨b, hb, e⟩
  · left; simpa using e
  · right
    rw [List.any_eq_true]
    exact ⟨b, hb, by simpa using e⟩


end Go.Proofs.Ythnjilbfkfekhaa
