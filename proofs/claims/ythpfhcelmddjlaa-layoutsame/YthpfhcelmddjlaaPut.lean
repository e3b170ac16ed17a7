/- Contracts of package bits' Writer: Put, Flag, Len. -/
import Derived.Test.YthpfhcelmddjlaaLay
namespace Go.Proofs.Ythpfhcelmddjlaa
open Go.RowKit

theorem ret_int {k : IntKind} {a b : Int} (h : a = b) : Ending.returned (.int k a) = .returned (.int k b) := by rw [h]

theorem within_any (n : Int) (w : World) : Calls Try.prog 77 #[.int .i64 n] w fun e w' => e = .returned (.int .i64 (min (max n 0) 64)) ∧ w = w' := by
  by_cases h1 : n < 0
  · have hf : (0 : Int) = min (max n 0) 64 := by omega
    have Hf := Lib.hid hf; clear hf
    go_enter Try.func77, Try.ntmps77
    go_wp2
    go_ret
    exact ⟨ret_int Hf.out, rfl⟩
  · by_cases h2 : 64 < n
    · have hf : (64 : Int) = min (max n 0) 64 := by omega
      have Hf := Lib.hid hf; clear hf
      go_enter Try.func77, Try.ntmps77
      go_wp2
      go_ret
      exact ⟨ret_int Hf.out, rfl⟩
    · have hf : n = min (max n 0) 64 := by omega
      have Hf := Lib.hid hf; clear hf
      go_enter Try.func77, Try.ntmps77
      go_wp2
      all_goals go_ret
      all_goals exact ⟨ret_int (by have := Hf.out; omega), rfl⟩

/-- The lowest 'W' bits of a number, the highest of them first. -/
def numBits (N W : Nat) : List Bool := (List.range W).map fun i => N.testBit (W - 1 - i)

theorem numBits_length (N W : Nat) : (numBits N W).length = W := by simp [numBits]

theorem numBits_take (N W i : Nat) (h : i < W) : (numBits N W).take (i + 1) = (numBits N W).take i ++ [N.testBit (W - 1 - i)] := by
  rw [List.take_succ_eq_append_getElem (by rw [numBits_length]; exact h)]
  simp [numBits]

theorem bit_eq (N k : Nat) : bits .and .u8 ((N : Int) / 2 ^ k % 256) 1 = ((N.testBit k).toNat : Int) := by
  have h1 : (N : Int) / 2 ^ k % 256 = ((N / 2 ^ k % 256 : Nat) : Int) := by simp
  rw [h1]
  have h2 := u8_and_nat (N / 2 ^ k % 256) 1 (Nat.mod_lt _ (by decide)) (by decide)
  rw [show (1 : Int) = ((1 : Nat) : Int) from rfl, h2, nat_mask1, Nat.testBit_eq_decide_div_mod_eq]
  have h3 : N / 2 ^ k % 256 % 2 = N / 2 ^ k % 2 := by omega
  rw [h3]
  rcases Nat.mod_two_eq_zero_or_one (N / 2 ^ k) with c | c <;> rw [c] <;> rfl

set_option maxHeartbeats 1000000 in
theorem put_still (w : World) (B g : Nat) (l : List Bool) (N : Nat) (width : Int) (hW : Wr w B g l) (hB : B ≤ w.heap.size) (hl : l.length ≤ 900000) :
    Calls Try.prog 50 #[.pointer (some ⟨g, 0, none⟩), .int .u64 (N : Int), .int .i64 width] w fun e w' => e = .returned (.pointer (some ⟨g, 0, none⟩)) ∧ Wr w' B g (l ++ numBits N (min (max width 0) 64).toNat) ∧ Kept B g w w' ∧ Still g w w' := by
  obtain ⟨W, hWd⟩ : ∃ W : Nat, min (max width 0) 64 = (W : Int) := ⟨(min (max width 0) 64).toNat, by omega⟩
  have W64 : W ≤ 64 := by omega
  rw [hWd, Int.toNat_natCast]
  have HWd := Lib.hid hWd; clear hWd
  have HW := Lib.hid hW; clear hW
  go_enter Try.func50, Try.ntmps50
  go_wp2_with fail
  refine (within_any width _).mono ?_; rintro e w' ⟨rfl, rfl⟩
  rw [HWd.out]
  go_wp2_with fail
  go_loopw [13] (fun c wr => ∃ i : Nat, i ≤ W ∧ c = .int .i64 i ∧ Hid (Wr wr B g (l ++ (numBits N W).take i) ∧ Kept B g w wr ∧ Still g w wr)) (fun c _ => W - (intOf c).toNat)
  case atStart => exact ⟨0, Nat.zero_le _, rfl, by simpa using HW.out, Kept.refl _ _ _, Still.refl _ _⟩
  case round =>
    obtain ⟨i, hi, rfl, H⟩ := hrel
    by_cases hlt : i < W
    · have hlen : (l ++ (numBits N W).take i).length ≤ 1000000 := by
        rw [List.length_append, List.length_take, numBits_length]; omega
      have HL := Lib.hid hlen; clear hlen
      go_wp2_with fail
      rw [bit_eq]
      refine (lay_still wr B g _ _ H.out.1 (Nat.le_trans hB H.out.2.1.size) HL.out).mono ?_
      rintro e w'' ⟨rfl, hW2, hK2, hS2⟩
      rw [List.append_assoc, ← numBits_take N W i hlt] at hW2
      have H2 : Hid (Wr w'' B g (l ++ (numBits N W).take (i + 1)) ∧ Kept B g w w'' ∧ Still g w w'') := ⟨hW2, H.out.2.1.trans hK2, H.out.2.2.trans hS2⟩
      clear hW2 hK2 hS2
      go_wp2_with fail
      go_roundw
      case rel => exact ⟨i + 1, by omega, by go_num, H2⟩
      case measure => simp [intOf]; omega
    · have hf : (numBits N W).take i = numBits N W := List.take_of_length_le (by rw [numBits_length]; omega)
      have Hf := Lib.hid hf; clear hf
      go_wp2_with fail
      go_ret
      exact ⟨rfl, by rw [← Hf.out]; exact H.out.1, H.out.2⟩

theorem put_some (w : World) (B g : Nat) (l : List Bool) (N : Nat) (width : Int) (hW : Wr w B g l) (hB : B ≤ w.heap.size) (hl : l.length ≤ 900000) :
    Calls Try.prog 50 #[.pointer (some ⟨g, 0, none⟩), .int .u64 (N : Int), .int .i64 width] w fun e w' => e = .returned (.pointer (some ⟨g, 0, none⟩)) ∧ Wr w' B g (l ++ numBits N (min (max width 0) 64).toNat) ∧ Kept B g w w' :=
  (put_still w B g l N width hW hB hl).mono fun _ _ ⟨h1, h2, h3, _⟩ => ⟨h1, h2, h3⟩

end Go.Proofs.Ythpfhcelmddjlaa
