/- Bytes and their bits; the document's Join; for the law of what may be written over. -/
import Derived.Test.YthpfhcelmddjlaaAid
import Derived.Laws.AppendOwnNone
namespace Go.Proofs.Ythpfhcelmddjlaa
open Go.RowKit

theorem byte_bits : ∀ y : Fin 256, 128 * (y.val.testBit 7).toNat + 64 * (y.val.testBit 6).toNat + 32 * (y.val.testBit 5).toNat + 16 * (y.val.testBit 4).toNat +
    8 * (y.val.testBit 3).toNat + 4 * (y.val.testBit 2).toNat + 2 * (y.val.testBit 1).toNat + (y.val.testBit 0).toNat = y.val := by decide +kernel

theorem bitQ_at (q : List Nat) (i k : Nat) (hk : k < 8) : bitQ q (8 * i + k) = (q.getD i 0).testBit (7 - k) := by
  unfold bitQ
  rw [show (8 * i + k) / 8 = i from by omega, show (8 * i + k) % 8 = k from by omega]

/-- The bits of the first 'i' bytes. -/
def upto (q : List Nat) (i : Nat) : List Bool := (List.range (8 * i)).map (bitQ q)

theorem upto_length (q : List Nat) (i : Nat) : (upto q i).length = 8 * i := by simp [upto]

theorem upto_succ (q : List Nat) (i : Nat) : upto q (i + 1) = upto q i ++ numBits (q.getD i 0) 8 := by
  apply List.ext_getElem
  · simp [upto_length, numBits_length]; omega
  · intro j h1 h2
    rw [upto_length] at h1
    by_cases c : j < 8 * i
    · rw [List.getElem_append_left (by rw [upto_length]; exact c)]
      simp [upto]
    · rw [List.getElem_append_right (by rw [upto_length]; omega), numBits_get]
      have e : bitQ q j = bitQ q (8 * i + (j - 8 * i)) := by rw [show 8 * i + (j - 8 * i) = j from by omega]
      simp only [upto, List.getElem_map, List.getElem_range, List.length_map, List.length_range]
      rw [e, bitQ_at q i _ (by omega), show 8 - 1 - (j - 8 * i) = 7 - (j - 8 * i) from by omega]

theorem get_upto (q : List Nat) (n k : Nat) (h : k < 8 * n) : get (upto q n) k = bitQ q k := by
  unfold get upto; simp [List.getD, h]

theorem byteAt_upto (q : List Nat) (n i : Nat) (h : i < n) (hq : q.getD i 0 < 256) : byteAt (upto q n) i = q.getD i 0 := by
  unfold byteAt
  rw [get_upto q n _ (by omega), get_upto q n _ (by omega), get_upto q n _ (by omega), get_upto q n _ (by omega), get_upto q n _ (by omega), get_upto q n _ (by omega), get_upto q n _ (by omega), get_upto q n _ (by omega)]
  have e0 := bitQ_at q i 0 (by omega)
  rw [Nat.add_zero] at e0
  rw [e0, bitQ_at q i 1 (by omega), bitQ_at q i 2 (by omega), bitQ_at q i 3 (by omega), bitQ_at q i 4 (by omega), bitQ_at q i 5 (by omega), bitQ_at q i 6 (by omega), bitQ_at q i 7 (by omega)]
  exact byte_bits ⟨q.getD i 0, hq⟩

theorem getD_lt {q : List Nat} (hb : ∀ x ∈ q, x < 256) (i : Nat) : q.getD i 0 < 256 := by
  by_cases c : i < q.length
  · have : q.getD i 0 = q[i] := by simp [List.getD, c]
    rw [this]; exact hb _ (List.getElem_mem _)
  · have : q.getD i 0 = 0 := by simp [List.getD, Nat.le_of_not_lt c]
    omega

theorem pack_upto (q : List Nat) (hb : ∀ x ∈ q, x < 256) : pack (upto q q.length) = q := by
  unfold pack
  have e : nb (upto q q.length).length = q.length := by rw [upto_length]; unfold nb; omega
  rw [e]
  apply List.ext_getElem
  · exact packTo_length _ _
  · intro i h1 h2
    rw [packTo_get, byteAt_upto q q.length i h2 (getD_lt hb i)]
    simp [List.getD, h2]

theorem numTo_byte (q : List Nat) (hb : ∀ x ∈ q, x < 256) (i : Nat) : numTo q (8 * i) 8 = q.getD i 0 := by
  have h := byte_bits ⟨q.getD i 0, getD_lt hb i⟩
  have e0 : bitQ q (8 * i + 0) = (q.getD i 0).testBit 7 := bitQ_at q i 0 (by omega)
  have e1 : bitQ q (8 * i + 1) = (q.getD i 0).testBit 6 := bitQ_at q i 1 (by omega)
  have e2 : bitQ q (8 * i + 2) = (q.getD i 0).testBit 5 := bitQ_at q i 2 (by omega)
  have e3 : bitQ q (8 * i + 3) = (q.getD i 0).testBit 4 := bitQ_at q i 3 (by omega)
  have e4 : bitQ q (8 * i + 4) = (q.getD i 0).testBit 3 := bitQ_at q i 4 (by omega)
  have e5 : bitQ q (8 * i + 5) = (q.getD i 0).testBit 2 := bitQ_at q i 5 (by omega)
  have e6 : bitQ q (8 * i + 6) = (q.getD i 0).testBit 1 := bitQ_at q i 6 (by omega)
  have e7 : bitQ q (8 * i + 7) = (q.getD i 0).testBit 0 := bitQ_at q i 7 (by omega)
  simp only [numTo]
  rw [e0, e1, e2, e3, e4, e5, e6, e7]
  simp only at h
  omega

end Go.Proofs.Ythpfhcelmddjlaa
