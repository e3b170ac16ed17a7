/- The document's example. -/
import Derived.Test.YtblbbdkpebacbaaDoorP2
import Derived.Test.YtblbbdkpebacbaaDoorFull
namespace Go.Proofs.YtblbbdkpebacbaaDoor
open Go.RowKit Fl
set_option maxRecDepth 100000

theorem full_secs (d : Dr) : 0 < (fullL d).secs.length ∧ ∀ n, n < (fullL d).secs.length → 0 < lenL (fullL d).secs (n : Int) ∧ lenL (fullL d).secs (n : Int) ≤ 1000 := by
  have e : (fullL d).secs.length = (makeEnds d).length := makeSecs_len d _ _
  refine ⟨by have := makeEnds_len d; omega, fun n hn => ?_⟩
  have h1 : lenL (fullL d).secs (n : Int) = ((fullL d).secs.getD n (0, 0, 0)).1 := by
    unfold lenL hasB
    rw [if_pos (by simp; omega)]; simp
  rw [h1]
  have key : ∀ (m i : Nat), i < m → 0 < ((makeSecs d (makeEnds d) m).getD i (0, 0, 0)).1 ∧ ((makeSecs d (makeEnds d) m).getD i (0, 0, 0)).1 ≤ 1000 := by
    intro m
    induction m with
    | zero => intro i hi; omega
    | succ m ih =>
      intro i hi
      have l := makeSecs_len d (makeEnds d) m
      simp only [makeSecs, List.getD]
      rcases Nat.lt_or_ge i m with c | c
      · rw [List.getElem?_append_left (by omega)]
        have := ih i c
        simpa only [List.getD] using this
      · have e2 : i = m := by omega
        rw [List.getElem?_append_right (by omega), l, e2, Nat.sub_self]
        have hu := unit_bounds d
        simp
        omega
  exact key _ n (by omega)

theorem full_wf (d : Dr) : ∀ p ∈ (fullL d).parts, Wf p := by
  intro p hp
  refine wf_of fun n hn => ?_
  have h := (makeParts_le d _).2 p hp
  have h1 := h.2 n hn
  have h2 := makeEnds_len d
  omega

theorem besideL_mem (L : Lay) (i : Nat) (hi : i < L.parts.length) (b : Int) : b ∈ besideL L (i : Int) ↔ ∃ s ∈ L.parts[i], ∃ n ∈ nearL L s, partL L.parts n = b ∧ b ≠ (i : Int) ∧ 0 ≤ b := by
  unfold besideL
  rw [if_pos (by omega), riseL_mem]
  have e : L.parts.getD (i : Int).toNat [] = L.parts[i] := by simp [List.getD, hi]
  rw [e]
  unfold besTo partsOf otherP
  simp only [List.mem_flatMap, List.mem_filter, List.mem_map, Bool.and_eq_true, Bool.not_eq_true', beq_eq_false_iff_ne, decide_eq_true_eq]
  constructor
  · rintro ⟨s, hs, ⟨n, hn, e⟩, h1, h2⟩; exact ⟨s, hs, n, hn, e, h1, h2⟩
  · rintro ⟨s, hs, n, hn, e, h1, h2⟩; exact ⟨s, hs, ⟨n, hn, e⟩, h1, h2⟩

def d00 : Dr := ⟨0, 0, 0, 0, 0, 0, 0, 0, []⟩
def exWas : List Int := [3, -2, -2]
def exClr : List Bool := [false, false, true]
def exVws : List Vw := [(3, true, [1, 0])]
/-- Where nobody but one is, it is that one's. -/
theorem fold_three : ∀ (bs : List Int) (a : Int), (a = 3 ∨ a = -2) → (∀ b ∈ bs, ∃ k : Nat, b = (k : Int) ∧ k < 3) → foldO exWas a bs = if a = 3 ∨ (0 : Int) ∈ bs then 3 else -2
  | [], a, h, _ => by rcases h with rfl | rfl <;> simp [foldO]
  | b :: r, a, h, hb => by
    obtain ⟨k, rfl, hk⟩ := hb b (List.mem_cons_self ..)
    have hr : ∀ b ∈ r, ∃ k : Nat, b = (k : Int) ∧ k < 3 := fun b hb' => hb b (List.mem_cons_of_mem _ hb')
    show foldO exWas (togO a (exWas.getD (k : Int).toNat 0)) r = _
    rw [Int.toNat_natCast]
    rcases (show k = 0 ∨ k = 1 ∨ k = 2 by omega) with rfl | rfl | rfl
    · have e : togO a (exWas.getD 0 0) = 3 := by rcases h with rfl | rfl <;> rfl
      rw [e, fold_three r 3 (Or.inl rfl) hr]
      simp
    · have e : togO a (exWas.getD 1 0) = a := by rcases h with rfl | rfl <;> rfl
      rw [e, fold_three r a h hr]
      simp
    · have e : togO a (exWas.getD 2 0) = a := by rcases h with rfl | rfl <;> rfl
      rw [e, fold_three r a h hr]
      simp
theorem d00_parts : (fullL d00).parts = [[0], [1], [2]] := by decide +kernel
theorem d00_near : (nearTo (fullL d00) 1 2).contains 0 = true := by decide +kernel
theorem d00_zero : (0 : Int) ∈ besideL (fullL d00) ((1 : Nat) : Int) := by
  refine (besideL_mem _ 1 (by rw [d00_parts]; decide) 0).2 ⟨1, by simp [d00_parts], 0, ?_, by rw [d00_parts]; decide, by decide, by decide⟩
  unfold nearL
  rw [riseL_mem]
  exact List.contains_iff_mem.1 d00_near
theorem ex_next : nextO (fullL d00) exWas exClr exVws = [3, 3, -2] := by
  have hl : (fullL d00).parts.length = 3 := by rw [d00_parts]; rfl
  have hb : ∀ (p : Int), ∀ b ∈ besideL (fullL d00) p, ∃ k : Nat, b = (k : Int) ∧ k < 3 := fun p b h => by
    obtain ⟨k, h1, h2⟩ := besideL_in h
    exact ⟨k, h1, by omega⟩
  have w0 : whoO (fullL d00) exWas 0 = 3 := by
    show foldO exWas 3 _ = 3
    rw [fold_three _ 3 (Or.inl rfl) (hb _)]; simp
  have w1 : whoO (fullL d00) exWas 1 = 3 := by
    show foldO exWas (-2) (besideL (fullL d00) ((1 : Nat) : Int)) = 3
    rw [fold_three _ (-2) (Or.inr rfl) (hb _), if_pos (Or.inr d00_zero)]
  have p0 : partO (fullL d00) exWas exClr exVws 0 = 3 := by
    unfold partO
    rw [w0, d00_parts]
    decide
  have p1 : partO (fullL d00) exWas exClr exVws 1 = 3 := by
    unfold partO
    rw [w1, d00_parts]
    decide
  have p2 : partO (fullL d00) exWas exClr exVws 2 = -2 := by
    unfold partO
    rw [if_pos (by decide)]
  unfold nextO
  rw [hl]
  show [partO (fullL d00) exWas exClr exVws 0, partO (fullL d00) exWas exClr exVws 1, partO (fullL d00) exWas exClr exVws 2] = _
  rw [p0, p1, p2]

end Go.Proofs.YtblbbdkpebacbaaDoor
