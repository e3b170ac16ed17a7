/- Pure: what a table's list is behind a Start, and a Stop. -/
import Derived.Test.YtkhceigfmaajdaaT10
namespace Go.Proofs.Ytkhceigfmaajdaa
open Go.RowKit
set_option maxRecDepth 100000

theorem has_iff (l : List (Int × Int)) (k : Int) : hasL l k = true ↔ k ∈ l.map Prod.fst := by
  unfold hasL
  rw [List.any_eq_true, List.mem_map]
  constructor
  · rintro ⟨p, hp, e⟩; exact ⟨p, hp, by simpa using e⟩
  · rintro ⟨p, hp, e⟩; exact ⟨p, hp, by simpa using e⟩
theorem has_perm {l l' : List (Int × Int)} (h : l.Perm l') (k : Int) : hasL l k = hasL l' k := by
  rw [Bool.eq_iff_iff, has_iff, has_iff]
  exact (h.map _).mem_iff
theorem has_stop (l : List (Int × Int)) (id k : Int) : hasL (stopL l id) k = (!decide (k = id) && hasL l k) := by
  rw [Bool.eq_iff_iff, has_iff]
  simp only [Bool.and_eq_true, Bool.not_eq_true', decide_eq_false_iff_not, has_iff, List.mem_map, stopL, List.mem_filter]
  constructor
  · rintro ⟨p, ⟨h1, h2⟩, rfl⟩; exact ⟨h2, p, h1, rfl⟩
  · rintro ⟨h1, p, h2, rfl⟩; exact ⟨p, ⟨h2, h1⟩, rfl⟩
theorem has_cons (x : Int × Int) (l : List (Int × Int)) (k : Int) : hasL (x :: l) k = (decide (x.1 = k) || hasL l k) := by
  simp [hasL]
theorem has_start (l : List (Int × Int)) (id at_ k : Int) (hf : fullL l id = false) : hasL (startL l id at_) k = (decide (id = k) || hasL l k) := by
  rw [has_perm (start_perm l id at_ hf), has_cons, has_stop]
  by_cases h : id = k
  · simp [h]
  · have h2 : ¬ k = id := fun e => h e.symm
    simp [h, h2]
theorem start_len {l : List (Int × Int)} (id at_ : Int) (hf : fullL l id = false) : (startL l id at_).length = (stopL l id).length + 1 := by
  rw [(start_perm l id at_ hf).length_eq, List.length_cons]
theorem full_no {l : List (Int × Int)} {id : Int} (h : l.length < 32) : fullL l id = false := by
  have : ¬ 32 ≤ l.length := by omega
  simp [fullL, this]
theorem full_has {l : List (Int × Int)} {id : Int} (h : hasL l id = true) : fullL l id = false := by simp [fullL, h]
theorem full_yes {l : List (Int × Int)} {id : Int} (h : hasL l id = false) (hl : l.length = 32) : fullL l id = true := by simp [fullL, h, hl]
theorem stop_none {l : List (Int × Int)} {id : Int} (h : hasL l id = false) : stopL l id = l := by
  unfold stopL
  rw [List.filter_eq_self]
  intro p hp
  have : ¬ id ∈ l.map Prod.fst := fun e => by rw [(has_iff l id).2 e] at h; cases h
  simp only [Bool.not_eq_true', decide_eq_false_iff_not]
  intro e
  exact this (by rw [← e]; exact List.mem_map_of_mem hp)
theorem startE_ok {l : List (Int × Int)} {id : Int} (h : fullL l id = false) : startE l id = 0 := by simp [startE, h]
theorem startE_full {l : List (Int × Int)} {id : Int} (h : fullL l id = true) : startE l id = 6 := by simp [startE, h]
theorem startL_full {l : List (Int × Int)} {id at_ : Int} (h : fullL l id = true) : startL l id at_ = l := by simp [startL, h]

/-- So many started, one behind the other: those are they. -/
structure Upto (l : List (Int × Int)) (f : Nat → Int) (n : Nat) : Prop where
  len : l.length = n
  mem : ∀ p, p ∈ l ↔ ∃ j, j < n ∧ p = ((j : Int), f j)
theorem Upto.nil (f : Nat → Int) : Upto [] f 0 := ⟨rfl, fun p => by simp⟩
theorem Upto.has {l : List (Int × Int)} {f : Nat → Int} {n : Nat} (h : Upto l f n) (k : Int) : hasL l k = true ↔ 0 ≤ k ∧ k < (n : Int) := by
  rw [has_iff, List.mem_map]
  constructor
  · rintro ⟨p, hp, rfl⟩
    obtain ⟨j, hj, rfl⟩ := (h.mem p).1 hp
    exact ⟨by simp, by simpa using hj⟩
  · rintro ⟨h1, h2⟩
    exact ⟨((k.toNat : Int), f k.toNat), (h.mem _).2 ⟨k.toNat, by omega, rfl⟩, by simp; omega⟩
theorem Upto.hasn {l : List (Int × Int)} {f : Nat → Int} {n : Nat} (h : Upto l f n) {k : Int} (hk : ¬ (0 ≤ k ∧ k < (n : Int))) : hasL l k = false := by
  cases e : hasL l k with
  | false => rfl
  | true => exact absurd ((h.has k).1 e) hk
theorem Upto.next {l : List (Int × Int)} {f : Nat → Int} {n : Nat} (h : Upto l f n) (hn : n < 32) : startE l (n : Int) = 0 ∧ Upto (startL l (n : Int) (f n)) f (n + 1) := by
  have hf : fullL l (n : Int) = false := full_no (by rw [h.len]; exact hn)
  have hh : hasL l (n : Int) = false := h.hasn (by omega)
  refine ⟨startE_ok hf, ?_, fun p => ?_⟩
  · rw [start_len _ _ hf, stop_none hh, h.len]
  · rw [(start_perm _ _ _ hf).mem_iff, List.mem_cons, stop_none hh, h.mem]
    constructor
    · rintro (rfl | ⟨j, hj, rfl⟩)
      · exact ⟨n, by omega, rfl⟩
      · exact ⟨j, by omega, rfl⟩
    · rintro ⟨j, hj, rfl⟩
      rcases Nat.lt_or_ge j n with c | c
      · exact Or.inr ⟨j, c, rfl⟩
      · obtain rfl : j = n := by omega
        exact Or.inl rfl

end Go.Proofs.Ytkhceigfmaajdaa
