/- The pure side of state (stage 12): what each section is, a change's number, the changes, and back; to be carried to that stage's seat. -/
import Derived.Test.YtblbbdkpebacbaaDoorO1
namespace Go.Proofs.YtblbbdkpebacbaaDoor
open Go.RowKit Fl
set_option maxRecDepth 100000

/-- Is a section in the span of that train's view? Of any view? -/
def inV (xs : List Vw) (id s : Int) : Bool := match findV xs id with
  | none => false
  | some v => v.2.2.contains s
def anyV (xs : List Vw) (s : Int) : Bool := xs.any fun v => v.2.2.contains s
/-- The owner of a section's part; of none: Unknown. -/
def whoS (L : Lay) (own : List Int) (s : Int) : Int := if 0 ≤ partL L.parts s then own.getD (partL L.parts s).toNat 0 else -1
def stO (L : Lay) (own : List Int) (xs : List Vw) (s : Int) : Nat :=
  if whoS L own s = -2 then 0 else if 0 ≤ whoS L own s then (if inV xs (whoS L own s) s = true then 1 else 0) else if anyV xs s = true then 2 else 3
def ofO (L : Lay) (own : List Int) (xs : List Vw) : List Nat := (List.range L.secs.length).map fun (i : Nat) => stO L own xs (i : Int)
theorem ofO_len (L : Lay) (own : List Int) (xs : List Vw) : (ofO L own xs).length = L.secs.length := by simp [ofO]
theorem ofO_get {L : Lay} {own : List Int} {xs : List Vw} {i : Nat} (h : i < (ofO L own xs).length) : (ofO L own xs)[i] = stO L own xs (i : Int) := by simp [ofO]
theorem stO_le (L : Lay) (own : List Int) (xs : List Vw) (s : Int) : stO L own xs s ≤ 3 := by
  unfold stO; repeat' split
  all_goals omega
theorem ofO_le {L : Lay} {own : List Int} {xs : List Vw} : ∀ x ∈ ofO L own xs, x ≤ 3 := by
  intro x hx
  obtain ⟨i, hi, rfl⟩ := List.getElem_of_mem hx
  rw [ofO_get]; exact stO_le _ _ _ _

/-- StateFree: what a section is, by its owner. -/
theorem stO_free (L : Lay) (own : List Int) (xs : List Vw) (s : Int) : stO L own xs s = 0 ↔ (whoS L own s = -2 ∨ (0 ≤ whoS L own s ∧ inV xs (whoS L own s) s = false)) := by
  unfold stO
  by_cases h1 : whoS L own s = -2
  · rw [if_pos h1]; simp [h1]
  · rw [if_neg h1]
    by_cases h2 : 0 ≤ whoS L own s
    · rw [if_pos h2]
      cases inV xs (whoS L own s) s <;> simp [h1, h2]
    · rw [if_neg h2]
      cases anyV xs s <;> simp [h1, h2]
theorem stO_taken (L : Lay) (own : List Int) (xs : List Vw) (s : Int) : stO L own xs s = 1 ↔ (0 ≤ whoS L own s ∧ inV xs (whoS L own s) s = true) := by
  unfold stO
  by_cases h1 : whoS L own s = -2
  · rw [if_pos h1]; simp [h1]
  · rw [if_neg h1]
    by_cases h2 : 0 ≤ whoS L own s
    · rw [if_pos h2]
      cases inV xs (whoS L own s) s <;> simp [h2]
    · rw [if_neg h2]
      cases anyV xs s <;> simp [h2]
/-- StateStarts: where nobody knows. -/
theorem stO_start (L : Lay) (n : Nat) (xs : List Vw) (s : Int) (hn : L.parts.length = n) : stO L (List.replicate n (-1)) xs s = if anyV xs s = true then 2 else 3 := by
  have hw : whoS L (List.replicate n (-1)) s = -1 := by
    unfold whoS
    split
    · rename_i h
      unfold partL at h ⊢
      cases e : L.parts.findIdx? (fun p => p.contains s) with
      | none => rw [e] at h; simp at h
      | some i =>
        rw [List.findIdx?_eq_some_iff_getElem] at e
        obtain ⟨hi, _⟩ := e
        show (List.replicate n (-1 : Int)).getD ((i : Int)).toNat 0 = -1
        rw [Int.toNat_natCast, List.getD_eq_getElem?_getD, List.getElem?_replicate, if_pos (by omega)]; rfl
    · rfl
  unfold stO
  rw [hw, if_neg (by decide), if_neg (by decide)]

/-- StateViews: with more views. -/
theorem anyV_take (xs : List Vw) (k : Nat) (s : Int) (h : anyV (xs.take k) s = true) : anyV xs s = true := by
  unfold anyV at h ⊢
  rw [List.any_eq_true] at h ⊢
  obtain ⟨v, hv, e⟩ := h
  exact ⟨v, List.mem_of_mem_take hv, e⟩
theorem stO_views (L : Lay) (own : List Int) (xs : List Vw) (k : Nat) (s : Int) :
    (whoS L own s = -1 → stO L own xs s ≠ 0 ∧ stO L own xs s ≠ 1) ∧ (whoS L own s = -2 → stO L own xs s = 0) ∧ (stO L own (xs.take k) s = 2 → stO L own xs s = 2) := by
  refine ⟨fun h => ?_, fun h => ?_, fun h => ?_⟩
  · unfold stO
    rw [h, if_neg (by decide), if_neg (by decide)]
    split <;> omega
  · unfold stO; rw [if_pos h]
  · unfold stO at h ⊢
    by_cases h1 : whoS L own s = -2
    · rw [if_pos h1] at h; omega
    · rw [if_neg h1] at h ⊢
      by_cases h2 : 0 ≤ whoS L own s
      · rw [if_pos h2] at h
        split at h <;> omega
      · rw [if_neg h2] at h ⊢
        by_cases h3 : anyV (xs.take k) s = true
        · rw [if_pos (anyV_take xs k s h3)]
        · rw [if_neg h3] at h; omega

/-- A change's number. -/
def kindTab : List Nat := [0, 2, 3, 1, 6, 0, 8, 7, 9, 11, 0, 10, 4, 12, 5, 0]
def kindO (a b : Nat) : Nat := if 3 < a ∨ 3 < b then 0 else kindTab.getD (4 * a + b) 0
theorem kindO_le (a b : Nat) : kindO a b ≤ 12 := by
  unfold kindO
  split
  · omega
  · rename_i h
    have key : ∀ (a b : Fin 4), kindTab.getD (4 * a.val + b.val) 0 ≤ 12 := by decide
    exact key ⟨a, by omega⟩ ⟨b, by omega⟩
theorem kindO_zero (a b : Nat) (ha : a ≤ 3) (hb : b ≤ 3) : kindO a b = 0 ↔ a = b := by
  unfold kindO
  rw [if_neg (by omega)]
  have key : ∀ (a b : Fin 4), kindTab.getD (4 * a.val + b.val) 0 = 0 ↔ a.val = b.val := by decide
  exact key ⟨a, by omega⟩ ⟨b, by omega⟩
theorem kindO_inj (a b c : Nat) (ha : a ≤ 3) (hb : b ≤ 3) (hc : c ≤ 3) (h : kindO a b = kindO a c) : b = c := by
  unfold kindO at h
  rw [if_neg (by omega), if_neg (by omega)] at h
  have key : ∀ (a b c : Fin 4), kindTab.getD (4 * a.val + b.val) 0 = kindTab.getD (4 * a.val + c.val) 0 → b.val = c.val := by decide
  exact key ⟨a, by omega⟩ ⟨b, by omega⟩ ⟨c, by omega⟩ h

/-- The changes, rising. -/
def chgTo (x y : List Nat) : Nat → List (Nat × Nat)
  | 0 => []
  | n + 1 => chgTo x y n ++ (if kindO (x.getD n 0) (y.getD n 0) = 0 then [] else [(n, kindO (x.getD n 0) (y.getD n 0))])
def chgO (x y : List Nat) : List (Nat × Nat) := chgTo x y (min x.length y.length)
theorem chgTo_mem {x y : List Nat} : ∀ {n : Nat} {p : Nat × Nat}, p ∈ chgTo x y n → p.1 < n ∧ p.2 = kindO (x.getD p.1 0) (y.getD p.1 0) ∧ p.2 ≠ 0
  | 0, p, h => by simp [chgTo] at h
  | n + 1, p, h => by
    rw [chgTo, List.mem_append] at h
    rcases h with h | h
    · have := chgTo_mem h; exact ⟨by omega, this.2⟩
    · split at h
      · simp at h
      · rename_i hk
        rw [List.mem_singleton] at h
        subst h
        exact ⟨Nat.lt_succ_self n, rfl, hk⟩
theorem chgTo_len (x y : List Nat) : ∀ n, (chgTo x y n).length ≤ n
  | 0 => Nat.le_refl _
  | n + 1 => by
    have ih := chgTo_len x y n
    rw [chgTo, List.length_append]
    split
    · simp; omega
    · simp; omega
theorem chgTo_rise (x y : List Nat) : ∀ n, (chgTo x y n).Pairwise fun a b => a.1 < b.1
  | 0 => List.Pairwise.nil
  | n + 1 => by
    rw [chgTo, List.pairwise_append]
    refine ⟨chgTo_rise x y n, ?_, fun a ha b hb => ?_⟩
    · split
      · exact List.Pairwise.nil
      · exact List.pairwise_singleton _ _
    · split at hb
      · simp at hb
      · rw [List.mem_singleton] at hb
        subst hb
        exact (chgTo_mem ha).1
theorem chgTo_none (x : List Nat) (hx : ∀ v ∈ x, v ≤ 3) : ∀ n, n ≤ x.length → chgTo x x n = []
  | 0, _ => rfl
  | n + 1, h => by
    rw [chgTo, chgTo_none x hx n (by omega)]
    have hv : x.getD n 0 ≤ 3 := by
      have hn : n < x.length := by omega
      have e : x.getD n 0 = x[n] := by simp [List.getD, hn]
      rw [e]; exact hx _ (List.getElem_mem hn)
    rw [if_pos ((kindO_zero _ _ hv hv).2 rfl)]; rfl

/-- And back: the states behind. -/
def backO (x y : List Nat) (n : Nat) : List Nat := (List.range x.length).map fun i => if i < n then y.getD i 0 else x.getD i 0
theorem backO_zero (x y : List Nat) : backO x y 0 = x := by
  apply List.ext_getElem
  · simp [backO]
  · intro i h1 h2; simp [backO, h2, List.getD]
theorem backO_full (x y : List Nat) (h : x.length = y.length) : backO x y x.length = y := by
  apply List.ext_getElem
  · simp [backO, h]
  · intro i h1 h2
    have : i < x.length := by omega
    simp [backO, this, List.getD, h2]
theorem backO_same (x y : List Nat) (n : Nat) (hn : n < x.length) (hx : x.getD n 0 ≤ 3) (hy : y.getD n 0 ≤ 3) (h : kindO (x.getD n 0) (y.getD n 0) = 0) : backO x y (n + 1) = backO x y n := by
  have e := (kindO_zero _ _ hx hy).1 h
  apply List.ext_getElem
  · simp [backO]
  · intro i h1 h2
    simp only [backO, List.getElem_map, List.getElem_range]
    by_cases c : i = n
    · subst c; rw [if_pos (by omega), if_neg (by omega), e]
    · by_cases c2 : i < n
      · rw [if_pos (by omega), if_pos c2]
      · rw [if_neg (by omega), if_neg c2]
theorem backO_set (x y : List Nat) (n : Nat) : (backO x y n).set n (y.getD n 0) = backO x y (n + 1) := by
  apply List.ext_getElem
  · simp [backO]
  · intro i h1 h2
    rw [List.getElem_set]
    simp only [backO, List.getElem_map, List.getElem_range]
    by_cases c : n = i
    · subst c; simp
    · rw [if_neg c]
      by_cases c2 : i < n
      · rw [if_pos c2, if_pos (by omega)]
      · rw [if_neg c2, if_neg (by omega)]
end Go.Proofs.YtblbbdkpebacbaaDoor
