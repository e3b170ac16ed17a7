/- Plain facts on bits laid into bytes, the highest first. No program. -/
import Derived.Laws.BitsAllLaws
namespace Go.Proofs.Ythpfhcelmddjlaa

def get (l : List Bool) (k : Nat) : Bool := l.getD k false

theorem get_snoc_lt {l : List Bool} {b : Bool} {k : Nat} (h : k < l.length) : get (l ++ [b]) k = get l k := by
  unfold get; simp [List.getD, List.getElem?_append, h]
theorem get_snoc_at (l : List Bool) (b : Bool) : get (l ++ [b]) l.length = b := by
  unfold get; simp [List.getD]
theorem get_past {l : List Bool} {k : Nat} (h : l.length ≤ k) : get l k = false := by
  unfold get; simp [List.getD, h]

/-- The byte at place 'i': the first bit is its highest. -/
def byteAt (l : List Bool) (i : Nat) : Nat :=
  128 * (get l (8 * i)).toNat + 64 * (get l (8 * i + 1)).toNat + 32 * (get l (8 * i + 2)).toNat + 16 * (get l (8 * i + 3)).toNat +
  8 * (get l (8 * i + 4)).toNat + 4 * (get l (8 * i + 5)).toNat + 2 * (get l (8 * i + 6)).toNat + (get l (8 * i + 7)).toNat

theorem toNat_le (b : Bool) : b.toNat ≤ 1 := by cases b <;> decide

theorem byteAt_lt (l : List Bool) (i : Nat) : byteAt l i < 256 := by
  unfold byteAt
  have a0 := toNat_le (get l (8 * i)); have a1 := toNat_le (get l (8 * i + 1)); have a2 := toNat_le (get l (8 * i + 2)); have a3 := toNat_le (get l (8 * i + 3))
  have a4 := toNat_le (get l (8 * i + 4)); have a5 := toNat_le (get l (8 * i + 5)); have a6 := toNat_le (get l (8 * i + 6)); have a7 := toNat_le (get l (8 * i + 7))
  omega

theorem byteAt_congr {l m : List Bool} {i : Nat} (h : ∀ k, 8 * i ≤ k → k < 8 * i + 8 → get l k = get m k) : byteAt l i = byteAt m i := by
  unfold byteAt
  rw [h (8 * i) (by omega) (by omega), h (8 * i + 1) (by omega) (by omega), h (8 * i + 2) (by omega) (by omega), h (8 * i + 3) (by omega) (by omega),
    h (8 * i + 4) (by omega) (by omega), h (8 * i + 5) (by omega) (by omega), h (8 * i + 6) (by omega) (by omega), h (8 * i + 7) (by omega) (by omega)]

theorem byteAt_past {l : List Bool} {i : Nat} (h : l.length ≤ 8 * i) : byteAt l i = 0 := by
  unfold byteAt
  rw [get_past (by omega), get_past (by omega), get_past (by omega), get_past (by omega), get_past (by omega), get_past (by omega), get_past (by omega), get_past (by omega)]
  rfl

theorem byteAt_snoc_lt {l : List Bool} {b : Bool} {i : Nat} (h : i < l.length / 8) : byteAt (l ++ [b]) i = byteAt l i :=
  byteAt_congr fun _ _ hk => get_snoc_lt (by omega)

/-- The last byte: what is laid is added, and stands below what was there. -/
theorem byteAt_snoc (l : List Bool) (b : Bool) : byteAt (l ++ [b]) (l.length / 8) = byteAt l (l.length / 8) + b.toNat * 2 ^ (7 - l.length % 8) ∧
    byteAt l (l.length / 8) % 2 ^ (8 - l.length % 8) = 0 := by
  generalize hq : l.length / 8 = q
  have hu : l.length % 8 < 8 := Nat.mod_lt _ (by decide)
  have hl : l.length = 8 * q + l.length % 8 := by omega
  generalize hv : l.length % 8 = u at *
  have lt : ∀ k, k < 8 * q + u → get (l ++ [b]) k = get l k := fun k hk => get_snoc_lt (by omega)
  have at_ : get (l ++ [b]) (8 * q + u) = b := by rw [← hl]; exact get_snoc_at l b
  have past : ∀ k, 8 * q + u < k → get (l ++ [b]) k = false := fun k hk => get_past (by simp; omega)
  have past' : ∀ k, 8 * q + u ≤ k → get l k = false := fun k hk => get_past (by omega)
  have hb := toNat_le b
  have a0 := toNat_le (get l (8 * q)); have a1 := toNat_le (get l (8 * q + 1)); have a2 := toNat_le (get l (8 * q + 2)); have a3 := toNat_le (get l (8 * q + 3))
  have a4 := toNat_le (get l (8 * q + 4)); have a5 := toNat_le (get l (8 * q + 5)); have a6 := toNat_le (get l (8 * q + 6)); have a7 := toNat_le (get l (8 * q + 7))
  unfold byteAt
  have cases : u = 0 ∨ u = 1 ∨ u = 2 ∨ u = 3 ∨ u = 4 ∨ u = 5 ∨ u = 6 ∨ u = 7 := by omega
  rcases cases with rfl | rfl | rfl | rfl | rfl | rfl | rfl | rfl
  · rw [Nat.add_zero] at at_
    rw [at_, past (8 * q + 1) (by omega), past (8 * q + 2) (by omega), past (8 * q + 3) (by omega), past (8 * q + 4) (by omega), past (8 * q + 5) (by omega), past (8 * q + 6) (by omega), past (8 * q + 7) (by omega),
      past' (8 * q) (by omega), past' (8 * q + 1) (by omega), past' (8 * q + 2) (by omega), past' (8 * q + 3) (by omega), past' (8 * q + 4) (by omega), past' (8 * q + 5) (by omega), past' (8 * q + 6) (by omega), past' (8 * q + 7) (by omega)]
    simp; omega
  · rw [at_, lt (8 * q) (by omega), past (8 * q + 2) (by omega), past (8 * q + 3) (by omega), past (8 * q + 4) (by omega), past (8 * q + 5) (by omega), past (8 * q + 6) (by omega), past (8 * q + 7) (by omega),
      past' (8 * q + 1) (by omega), past' (8 * q + 2) (by omega), past' (8 * q + 3) (by omega), past' (8 * q + 4) (by omega), past' (8 * q + 5) (by omega), past' (8 * q + 6) (by omega), past' (8 * q + 7) (by omega)]
    simp; omega
  · rw [at_, lt (8 * q) (by omega), lt (8 * q + 1) (by omega), past (8 * q + 3) (by omega), past (8 * q + 4) (by omega), past (8 * q + 5) (by omega), past (8 * q + 6) (by omega), past (8 * q + 7) (by omega),
      past' (8 * q + 2) (by omega), past' (8 * q + 3) (by omega), past' (8 * q + 4) (by omega), past' (8 * q + 5) (by omega), past' (8 * q + 6) (by omega), past' (8 * q + 7) (by omega)]
    simp; omega
  · rw [at_, lt (8 * q) (by omega), lt (8 * q + 1) (by omega), lt (8 * q + 2) (by omega), past (8 * q + 4) (by omega), past (8 * q + 5) (by omega), past (8 * q + 6) (by omega), past (8 * q + 7) (by omega),
      past' (8 * q + 3) (by omega), past' (8 * q + 4) (by omega), past' (8 * q + 5) (by omega), past' (8 * q + 6) (by omega), past' (8 * q + 7) (by omega)]
    simp; omega
  · rw [at_, lt (8 * q) (by omega), lt (8 * q + 1) (by omega), lt (8 * q + 2) (by omega), lt (8 * q + 3) (by omega), past (8 * q + 5) (by omega), past (8 * q + 6) (by omega), past (8 * q + 7) (by omega),
      past' (8 * q + 4) (by omega), past' (8 * q + 5) (by omega), past' (8 * q + 6) (by omega), past' (8 * q + 7) (by omega)]
    simp; omega
  · rw [at_, lt (8 * q) (by omega), lt (8 * q + 1) (by omega), lt (8 * q + 2) (by omega), lt (8 * q + 3) (by omega), lt (8 * q + 4) (by omega), past (8 * q + 6) (by omega), past (8 * q + 7) (by omega),
      past' (8 * q + 5) (by omega), past' (8 * q + 6) (by omega), past' (8 * q + 7) (by omega)]
    simp; omega
  · rw [at_, lt (8 * q) (by omega), lt (8 * q + 1) (by omega), lt (8 * q + 2) (by omega), lt (8 * q + 3) (by omega), lt (8 * q + 4) (by omega), lt (8 * q + 5) (by omega), past (8 * q + 7) (by omega),
      past' (8 * q + 6) (by omega), past' (8 * q + 7) (by omega)]
    simp; omega
  · rw [at_, lt (8 * q) (by omega), lt (8 * q + 1) (by omega), lt (8 * q + 2) (by omega), lt (8 * q + 3) (by omega), lt (8 * q + 4) (by omega), lt (8 * q + 5) (by omega), lt (8 * q + 6) (by omega),
      past' (8 * q + 7) (by omega)]
    simp; omega

def nb (n : Nat) : Nat := (n + 7) / 8
def packTo (l : List Bool) (m : Nat) : List Nat := (List.range m).map (byteAt l)
/-- All of them, and noughts up to a whole byte. -/
def pack (l : List Bool) : List Nat := packTo l (nb l.length)

theorem packTo_length (l : List Bool) (m : Nat) : (packTo l m).length = m := by simp [packTo]
theorem packTo_get (l : List Bool) (m i : Nat) (h : i < (packTo l m).length) : (packTo l m)[i] = byteAt l i := by simp [packTo]

theorem packTo_zero {l : List Bool} {m : Nat} (h : l.length ≤ 8 * m) : packTo l (m + 1) = packTo l m ++ [0] := by
  unfold packTo
  rw [List.range_succ, List.map_append, List.map_cons, List.map_nil, byteAt_past h]

theorem packTo_snoc (l : List Bool) (b : Bool) : (packTo l (l.length / 8 + 1)).set (l.length / 8) (byteAt l (l.length / 8) ||| b.toNat * 2 ^ (7 - l.length % 8)) = packTo (l ++ [b]) (l.length / 8 + 1) := by
  obtain ⟨h1, h2⟩ := byteAt_snoc l b
  have h3 : b.toNat * 2 ^ (7 - l.length % 8) < 2 ^ (8 - l.length % 8) := by
    have e : 2 ^ (8 - l.length % 8) = 2 ^ (7 - l.length % 8) * 2 := by
      rw [show 8 - l.length % 8 = 7 - l.length % 8 + 1 from by omega, Nat.pow_succ]
    have := Nat.two_pow_pos (7 - l.length % 8)
    cases b
    · simp; omega
    · simp; omega
  rw [nat_join _ _ _ h2 h3, ← h1]
  apply List.ext_getElem
  · simp [packTo]
  · intro i hi1 hi2
    rw [List.getElem_set]
    have hi : i < l.length / 8 + 1 := by simpa [packTo] using hi2
    split
    · rename_i e; subst e; rw [packTo_get]
    · rw [packTo_get, packTo_get, byteAt_snoc_lt (by omega)]

theorem nb_snoc (n : Nat) : nb (n + 1) = n / 8 + 1 := by unfold nb; omega

end Go.Proofs.Ythpfhcelmddjlaa
