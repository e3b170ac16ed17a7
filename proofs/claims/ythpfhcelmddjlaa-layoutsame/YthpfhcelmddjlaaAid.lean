/- Small aids for the laws of package bits: a width that is a natural number up to 64; what two calls leave of an object. -/
import Derived.Test.YthpfhcelmddjlaaReader
namespace Go.Proofs.Ythpfhcelmddjlaa
open Go.RowKit

theorem Wr.new (w : World) (B : Nat) : Wr (w.alloc (.cells #[.slice none 0 0, .int .i64 0] 59)) B w.heap.size [] :=
  ⟨.slice none 0 0, Row.new w 59 _, World.ownsRow_nil _ _ _ _⟩

theorem clamp_nat (n : Nat) (h : n ≤ 64) : (min (max (n : Int) 0) 64).toNat = n := by omega

theorem put_nat (w : World) (B g : Nat) (l : List Bool) (N n : Nat) (hW : Wr w B g l) (hB : B ≤ w.heap.size) (hl : l.length ≤ 900000) (hn : n ≤ 64) :
    Calls Try.prog 50 #[.pointer (some ⟨g, 0, none⟩), .int .u64 (N : Int), .int .i64 (n : Int)] w fun e w' => e = .returned (.pointer (some ⟨g, 0, none⟩)) ∧ Wr w' B g (l ++ numBits N n) ∧ Kept B g w w' := by
  have h := put_some w B g l N n hW hB hl
  rw [clamp_nat n hn] at h
  exact h

/-- A writer below 'B' that is not 'g', its bytes below 'B' too, is as it was. -/
theorem Kept.wr {B g : Nat} {w w' : World} (h : Kept B g w w') {B1 g1 : Nat} {l : List Bool} {t : TypeId} {cs : Array Value} (hw : Wr w B1 g1 l) (hB : w.heap.size ≤ B) (hg : g1 ≠ g) (hr : Row w g t cs) (ht : (5 : TypeId) ≠ t) : Wr w' B1 g1 l := by
  obtain ⟨v, r, o⟩ := hw
  exact ⟨v, h.row r (Nat.lt_of_lt_of_le r.lt hB) hg, h.owns o fun k hk => ⟨Nat.lt_of_lt_of_le (o.lt k hk).2 hB, fun e => own_ne o hr ht (by rw [hk, e])⟩⟩

theorem Below.wr {B : Nat} {w w' : World} (h : Below B w w') {B1 g1 : Nat} {l : List Bool} (hw : Wr w B1 g1 l) (hB : w.heap.size ≤ B) : Wr w' B1 g1 l := by
  obtain ⟨v, r, o⟩ := hw
  exact ⟨v, (h.block g1 (Nat.lt_of_lt_of_le r.lt hB)).trans r, (Kept.of_below (g := B) h).owns o fun k hk => ⟨Nat.lt_of_lt_of_le (o.lt k hk).2 hB, by have := (o.lt k hk).2; omega⟩⟩

theorem numBits_get (N W i : Nat) (h : i < (numBits N W).length) : (numBits N W)[i] = N.testBit (W - 1 - i) := by simp [numBits]

end Go.Proofs.Ythpfhcelmddjlaa
