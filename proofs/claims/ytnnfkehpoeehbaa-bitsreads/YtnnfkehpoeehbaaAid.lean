/- Small aids for the laws of package bits: a width that is a natural number up to 64; what two calls leave of an object. -/
import Derived.Test.YtnnfkehpoeehbaaFive
namespace Go.Proofs.Ytnnfkehpoeehbaa
open Go.RowKit

theorem clamp_nat (n : Nat) (h : n ≤ 64) : (min (max (n : Int) 0) 64).toNat = n := by omega

theorem put_nat (w : World) (B g : Nat) (l : List Bool) (N n : Nat) (hW : Wr w B g l) (hB : B ≤ w.heap.size) (hl : l.length ≤ 900000) (hn : n ≤ 64) :
    Calls Try.prog 25 #[.pointer (some ⟨g, 0, none⟩), .int .u64 (N : Int), .int .i64 (n : Int)] w fun e w' => e = .returned (.pointer (some ⟨g, 0, none⟩)) ∧ Wr w' B g (l ++ numBits N n) ∧ Kept B g w w' := by
  have h := put_some w B g l N n hW hB hl
  rw [clamp_nat n hn] at h
  exact h

/-- A writer below 'B' that is not 'g', its bytes below 'B' too, is as it was. -/
theorem Kept.wr {B g : Nat} {w w' : World} (h : Kept B g w w') {B1 g1 : Nat} {l : List Bool} {t : TypeId} {cs : Array Value} (hw : Wr w B1 g1 l) (hB : w.heap.size ≤ B) (hg : g1 ≠ g) (hr : Row w g t cs) (ht : (5 : TypeId) ≠ t) : Wr w' B1 g1 l := by
  obtain ⟨v, r, o⟩ := hw
  exact ⟨v, h.row r (Nat.lt_of_lt_of_le r.lt hB) hg, h.owns o fun k hk => ⟨Nat.lt_of_lt_of_le (o.lt k hk).2 hB, fun e => own_ne o hr ht (by rw [hk, e])⟩⟩

theorem Below.wr {B : Nat} {w w' : World} (h : Below B w w') {B1 g1 : Nat} {l : List Bool} (hw : Wr w B1 g1 l) (hB : w.heap.size ≤ B) : Wr w' B1 g1 l := by
  obtain ⟨v, r, o⟩ := hw
  exact ⟨v, (h.block g1 (Nat.lt_of_lt_of_le r.lt hB)).trans r, (Kept.of_below (g := B) h).owns o fun k hk => ⟨Nat.lt_of_lt_of_le (o.lt k hk).2 hB, by have := (o.lt k hk).2; omega⟩⟩

theorem numBits_get (N W i : Nat) (h : i < (numBits N W).length) : (numBits N W)[i] = N.testBit (W - 1 - i) := by simp [numBits]

theorem numBits_join (a b n m : Nat) (hn : n ≤ 32) (hm : m ≤ 32) : numBits (a * 2 ^ m % 2 ^ 64 ||| b % 2 ^ m) (n + m) = numBits a n ++ numBits b m := by
  apply List.ext_getElem
  · simp [numBits_length]
  · intro i h1 h2
    rw [numBits_length] at h1
    rw [numBits_get, Nat.testBit_or, Nat.testBit_mod_two_pow, Nat.testBit_mod_two_pow, Nat.testBit_mul_two_pow]
    by_cases c : i < n
    · rw [List.getElem_append_left (by rw [numBits_length]; exact c), numBits_get]
      have e1 : n + m - 1 - i < 64 := by omega
      have e2 : ¬ n + m - 1 - i < m := by omega
      have e3 : m ≤ n + m - 1 - i := by omega
      have e4 : n + m - 1 - i - m = n - 1 - i := by omega
      simp [e1, e2, e3, e4]
    · rw [List.getElem_append_right (by rw [numBits_length]; omega), numBits_get, numBits_length]
      have e1 : n + m - 1 - i < m := by omega
      have e2 : ¬ m ≤ n + m - 1 - i := by omega
      have e3 : m - 1 - (i - n) = n + m - 1 - i := by omega
      simp [e1, e2, e3]

end Go.Proofs.Ytnnfkehpoeehbaa
