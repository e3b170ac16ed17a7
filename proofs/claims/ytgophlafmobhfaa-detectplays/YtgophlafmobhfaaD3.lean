/- Contracts: New, Step. -/
import Derived.Test.YtgophlafmobhfaaD2
namespace Go.Proofs.Ytgophlafmobhfaa
open Go.RowKit
set_option maxRecDepth 100000

theorem info_parts {P : Program} {t : TypeId} {z : Option Value} {s b : Nat} (h : (P.info? t).map (fun i => (i.zero, i.size, i.bytes)) = some (z, s, b)) : ∃ i, P.info? t = some i ∧ i.zero = z ∧ i.size = s ∧ i.bytes = b := by
  cases e : P.info? t with
  | none => rw [e] at h; cases h
  | some i =>
    rw [e] at h
    simp only [Option.map_some, Option.some.injEq, Prod.mk.injEq] at h
    exact ⟨i, rfl, h⟩

/-- Booleans, part by part. -/
def gvals (n : Nat) (b : Nat → Bool) : List Value := (List.range n).map fun i => .bool (b i)
theorem gvals_length (n : Nat) (b : Nat → Bool) : (gvals n b).length = n := by simp [gvals]
theorem gvals_get (n : Nat) (b : Nat → Bool) (i : Nat) (h : i < n) : (gvals n b)[i]? = some (.bool (b i)) := by simp [gvals, h]
theorem gvals_set (n : Nat) (c c' : Nat → Bool) (i : Nat) (x : Bool) (hx : c' i = x) (hc : ∀ j, j ≠ i → c' j = c j) : (gvals n c).toArray.setIfInBounds i (.bool x) = (gvals n c').toArray := by
  apply Array.ext'
  simp only [Array.toList_setIfInBounds]
  apply List.ext_getElem?
  intro j
  rw [List.getElem?_set]
  simp only [gvals_length]
  by_cases hj : j < n
  · by_cases hij : i = j
    · subst hij; simp [hj, gvals, hx]
    · simp [hij, hj, gvals, hc j (fun e => hij e.symm)]
  · by_cases hij : i = j
    · subst hij; simp [hj, gvals]
    · simp [hij, hj, gvals]

theorem Try.info2 : (Try.prog.info? 2).map (fun i => (i.zero, i.size, i.bytes)) = some (some (.int .i64 0), 1, 8) := by kernel_rfl
theorem Try.info4 : (Try.prog.info? 4).map (fun i => (i.zero, i.size, i.bytes)) = some (some (.bool false), 1, 1) := by kernel_rfl
theorem made_i (n : Nat) : madeCells (Value.int .i64 0).cells (n * 1) = (fvals n fun _ => 0).toArray := by
  apply Array.ext
  · simp [madeCells, fvals]
  · intro i h1 h2
    simp [madeCells, fvals, Value.cells, Nat.mod_one]
theorem made_b (n : Nat) : madeCells (Value.bool false).cells (n * 1) = (gvals n fun _ => false).toArray := by
  apply Array.ext
  · simp [madeCells, gvals]
  · intro i h1 h2
    simp [madeCells, gvals, Value.cells, Nat.mod_one]
theorem make_i (n : Nat) (hn : n ≤ 1000) (w : World) :
    (Instr.makeSlice 41 (.int .i64 (n : Int)) (.int .i64 (n : Int))).run Try.prog w = .ok (.slice (some ⟨w.heap.size, 0, none⟩) n n) (w.alloc (.cells (fvals n fun _ => 0).toArray 2)) := by
  obtain ⟨i0, hi, hz0, hz1, hz2⟩ := info_parts Try.info2
  have h := run_make (P := Try.prog) w 41 2 i0 (.int .i64 0) Try.underlying41 hi hz0 .i64 .i64 (n : Int) (n : Int) (by omega) (Int.le_refl _) (by rw [hz2]; omega) (by omega)
  rw [hz1, Int.toNat_natCast, made_i] at h
  exact h
theorem make_b (n : Nat) (hn : n ≤ 1000) (w : World) :
    (Instr.makeSlice 26 (.int .i64 (n : Int)) (.int .i64 (n : Int))).run Try.prog w = .ok (.slice (some ⟨w.heap.size, 0, none⟩) n n) (w.alloc (.cells (gvals n fun _ => false).toArray 4)) := by
  obtain ⟨i0, hi, hz0, hz1, hz2⟩ := info_parts Try.info4
  have h := run_make (P := Try.prog) w 26 4 i0 (.bool false) Try.underlying26 hi hz0 .i64 .i64 (n : Int) (n : Int) (by omega) (Int.le_refl _) (by rw [hz2]; omega) (by omega)
  rw [hz1, Int.toNat_natCast, made_b] at h
  exact h

def partsN (p : Int) : Nat := (min (max p 0) 16).toNat
def stayS (s : Int) : Int := min (max s 0) 1000

def RetNew (w : World) (p s : Int) (e : Ending) (w' : World) : Prop :=
  ∃ g h, e = .returned (.pointer (some ⟨g, 0, none⟩)) ∧ Fi w' w.heap.size g h (partsN p) (fun _ => 0) (stayS s) ∧ Below w.heap.size w w'

theorem new_fi (w : World) (n : Nat) (s : Int) (hn : n ≤ 16) (hs : 0 ≤ s ∧ s ≤ 1000) : 
    Fi ((w.alloc (.cells (fvals n fun _ => 0).toArray 2)).alloc (.cells #[.slice (some ⟨w.heap.size, 0, none⟩) n n, .int .i64 s] 43)) w.heap.size (w.heap.size + 1) w.heap.size n (fun _ => 0) s ∧ Below w.heap.size w ((w.alloc (.cells (fvals n fun _ => 0).toArray 2)).alloc (.cells #[.slice (some ⟨w.heap.size, 0, none⟩) n n, .int .i64 s] 43)) := by
  have h1 := Row.new w 2 (fvals n fun _ => 0).toArray
  have h2 := Row.new (w.alloc (.cells (fvals n fun _ => 0).toArray 2)) 43 #[.slice (some ⟨w.heap.size, 0, none⟩) n n, .int .i64 s]
  have e : (w.alloc (.cells (fvals n fun _ => 0).toArray 2)).heap.size = w.heap.size + 1 := by simp
  rw [e] at h2
  exact ⟨⟨⟨by omega, by omega⟩, h2, h1.alloc _, hn, hs, fun _ => ⟨by decide, by decide⟩⟩, ((Below.refl _ _).alloc (Nat.le_refl _) _).alloc (by simp) _⟩

set_option maxHeartbeats 1000000 in
theorem new_lo_lo (w : World) (p : Int) (hp : p < 0) (s : Int) (hs : s < 0) : Calls Try.prog 9 #[.int .i64 p, .int .i64 s] w (RetNew w p s) := by
  obtain ⟨RP, hRP⟩ : ∃ R, R = RetNew w p s := ⟨_, rfl⟩
  rw [← hRP]
  have HRP := Lib.hid hRP
  clear hRP
  have HN : Hid (partsN p = 0) := by show _ = _; unfold partsN; omega
  have HT : Hid (stayS s = 0) := by show _ = _; unfold stayS; omega
  have hmk : ∀ w : World, (Instr.makeSlice 41 (.int .i64 0) (.int .i64 0)).run Try.prog w = .ok (.slice (some ⟨w.heap.size, 0, none⟩) 0 0) (w.alloc (.cells (fvals 0 fun _ => 0).toArray 2)) := make_i 0 (by omega)
  have a1 : ¬ 0 < p := by omega
  have a2 : ¬ 0 ≤ p := by omega
  have b1 : ¬ 0 < s := by omega
  have b2 : ¬ 0 ≤ s := by omega
  go_enter Try.func9, Try.ntmps9
  go_wp2_with fail
  rw [HRP.out]
  obtain ⟨f, hb⟩ := new_fi w 0 0 (by omega) ⟨by omega, by omega⟩
  refine ⟨_, w.heap.size, rfl, ?_, hb⟩
  rw [HN.out, HT.out]
  exact f

set_option maxHeartbeats 1000000 in
theorem new_lo_mid (w : World) (p : Int) (hp : p < 0) (s : Int) (hs : 0 ≤ s) (hs2 : s ≤ 1000) : Calls Try.prog 9 #[.int .i64 p, .int .i64 s] w (RetNew w p s) := by
  obtain ⟨RP, hRP⟩ : ∃ R, R = RetNew w p s := ⟨_, rfl⟩
  rw [← hRP]
  have HRP := Lib.hid hRP
  clear hRP
  have HN : Hid (partsN p = 0) := by show _ = _; unfold partsN; omega
  have HT : Hid (stayS s = s) := by show _ = _; unfold stayS; omega
  have hmk : ∀ w : World, (Instr.makeSlice 41 (.int .i64 0) (.int .i64 0)).run Try.prog w = .ok (.slice (some ⟨w.heap.size, 0, none⟩) 0 0) (w.alloc (.cells (fvals 0 fun _ => 0).toArray 2)) := make_i 0 (by omega)
  have a1 : ¬ 0 < p := by omega
  have a2 : ¬ 0 ≤ p := by omega
  have b1 : ¬ s < 0 := by omega
  have b2 : ¬ 1000 < s := by omega
  go_enter Try.func9, Try.ntmps9
  go_wp2_with fail
  rw [HRP.out]
  obtain ⟨f, hb⟩ := new_fi w 0 s (by omega) ⟨by omega, by omega⟩
  refine ⟨_, w.heap.size, rfl, ?_, hb⟩
  rw [HN.out, HT.out]
  exact f

set_option maxHeartbeats 1000000 in
theorem new_lo_hi (w : World) (p : Int) (hp : p < 0) (s : Int) (hs : 1000 < s) : Calls Try.prog 9 #[.int .i64 p, .int .i64 s] w (RetNew w p s) := by
  obtain ⟨RP, hRP⟩ : ∃ R, R = RetNew w p s := ⟨_, rfl⟩
  rw [← hRP]
  have HRP := Lib.hid hRP
  clear hRP
  have HN : Hid (partsN p = 0) := by show _ = _; unfold partsN; omega
  have HT : Hid (stayS s = 1000) := by show _ = _; unfold stayS; omega
  have hmk : ∀ w : World, (Instr.makeSlice 41 (.int .i64 0) (.int .i64 0)).run Try.prog w = .ok (.slice (some ⟨w.heap.size, 0, none⟩) 0 0) (w.alloc (.cells (fvals 0 fun _ => 0).toArray 2)) := make_i 0 (by omega)
  have a1 : ¬ 0 < p := by omega
  have a2 : ¬ 0 ≤ p := by omega
  have b1 : ¬ s < 0 := by omega
  have b2 : ¬ s ≤ 1000 := by omega
  have b3 : 0 ≤ s := by omega
  have b4 : 0 < s := by omega
  have b5 : ¬ s < 1000 := by omega
  go_enter Try.func9, Try.ntmps9
  go_wp2_with fail
  rw [HRP.out]
  obtain ⟨f, hb⟩ := new_fi w 0 1000 (by omega) ⟨by omega, by omega⟩
  refine ⟨_, w.heap.size, rfl, ?_, hb⟩
  rw [HN.out, HT.out]
  exact f

set_option maxHeartbeats 1000000 in
theorem new_mid_lo (w : World) (n : Nat) (hp : n ≤ 16) (s : Int) (hs : s < 0) : Calls Try.prog 9 #[.int .i64 (n : Int), .int .i64 s] w (RetNew w (n : Int) s) := by
  obtain ⟨RP, hRP⟩ : ∃ R, R = RetNew w (n : Int) s := ⟨_, rfl⟩
  rw [← hRP]
  have HRP := Lib.hid hRP
  clear hRP
  have HN : Hid (partsN (n : Int) = n) := by show _ = _; unfold partsN; omega
  have HT : Hid (stayS s = 0) := by show _ = _; unfold stayS; omega
  have hmk : ∀ w : World, (Instr.makeSlice 41 (.int .i64 (n : Int)) (.int .i64 (n : Int))).run Try.prog w = .ok (.slice (some ⟨w.heap.size, 0, none⟩) n n) (w.alloc (.cells (fvals n fun _ => 0).toArray 2)) := make_i n (by omega)
  have a1 : ¬ (n : Int) < 0 := by omega
  have a2 : ¬ 16 < (n : Int) := by omega
  have a3 : (n : Int) ≤ 16 := by omega
  have a4 : (0 : Int) ≤ (n : Int) := by omega
  have b1 : ¬ 0 < s := by omega
  have b2 : ¬ 0 ≤ s := by omega
  go_enter Try.func9, Try.ntmps9
  go_wp2_with fail
  rw [HRP.out]
  obtain ⟨f, hb⟩ := new_fi w n 0 (by omega) ⟨by omega, by omega⟩
  refine ⟨_, w.heap.size, rfl, ?_, hb⟩
  rw [HN.out, HT.out]
  exact f

set_option maxHeartbeats 1000000 in
theorem new_mid_mid (w : World) (n : Nat) (hp : n ≤ 16) (s : Int) (hs : 0 ≤ s) (hs2 : s ≤ 1000) : Calls Try.prog 9 #[.int .i64 (n : Int), .int .i64 s] w (RetNew w (n : Int) s) := by
  obtain ⟨RP, hRP⟩ : ∃ R, R = RetNew w (n : Int) s := ⟨_, rfl⟩
  rw [← hRP]
  have HRP := Lib.hid hRP
  clear hRP
  have HN : Hid (partsN (n : Int) = n) := by show _ = _; unfold partsN; omega
  have HT : Hid (stayS s = s) := by show _ = _; unfold stayS; omega
  have hmk : ∀ w : World, (Instr.makeSlice 41 (.int .i64 (n : Int)) (.int .i64 (n : Int))).run Try.prog w = .ok (.slice (some ⟨w.heap.size, 0, none⟩) n n) (w.alloc (.cells (fvals n fun _ => 0).toArray 2)) := make_i n (by omega)
  have a1 : ¬ (n : Int) < 0 := by omega
  have a2 : ¬ 16 < (n : Int) := by omega
  have a3 : (n : Int) ≤ 16 := by omega
  have a4 : (0 : Int) ≤ (n : Int) := by omega
  have b1 : ¬ s < 0 := by omega
  have b2 : ¬ 1000 < s := by omega
  go_enter Try.func9, Try.ntmps9
  go_wp2_with fail
  rw [HRP.out]
  obtain ⟨f, hb⟩ := new_fi w n s (by omega) ⟨by omega, by omega⟩
  refine ⟨_, w.heap.size, rfl, ?_, hb⟩
  rw [HN.out, HT.out]
  exact f

set_option maxHeartbeats 1000000 in
theorem new_mid_hi (w : World) (n : Nat) (hp : n ≤ 16) (s : Int) (hs : 1000 < s) : Calls Try.prog 9 #[.int .i64 (n : Int), .int .i64 s] w (RetNew w (n : Int) s) := by
  obtain ⟨RP, hRP⟩ : ∃ R, R = RetNew w (n : Int) s := ⟨_, rfl⟩
  rw [← hRP]
  have HRP := Lib.hid hRP
  clear hRP
  have HN : Hid (partsN (n : Int) = n) := by show _ = _; unfold partsN; omega
  have HT : Hid (stayS s = 1000) := by show _ = _; unfold stayS; omega
  have hmk : ∀ w : World, (Instr.makeSlice 41 (.int .i64 (n : Int)) (.int .i64 (n : Int))).run Try.prog w = .ok (.slice (some ⟨w.heap.size, 0, none⟩) n n) (w.alloc (.cells (fvals n fun _ => 0).toArray 2)) := make_i n (by omega)
  have a1 : ¬ (n : Int) < 0 := by omega
  have a2 : ¬ 16 < (n : Int) := by omega
  have a3 : (n : Int) ≤ 16 := by omega
  have a4 : (0 : Int) ≤ (n : Int) := by omega
  have b1 : ¬ s < 0 := by omega
  have b2 : ¬ s ≤ 1000 := by omega
  have b3 : 0 ≤ s := by omega
  have b4 : 0 < s := by omega
  have b5 : ¬ s < 1000 := by omega
  go_enter Try.func9, Try.ntmps9
  go_wp2_with fail
  rw [HRP.out]
  obtain ⟨f, hb⟩ := new_fi w n 1000 (by omega) ⟨by omega, by omega⟩
  refine ⟨_, w.heap.size, rfl, ?_, hb⟩
  rw [HN.out, HT.out]
  exact f

set_option maxHeartbeats 1000000 in
theorem new_hi_lo (w : World) (p : Int) (hp : 16 < p) (s : Int) (hs : s < 0) : Calls Try.prog 9 #[.int .i64 p, .int .i64 s] w (RetNew w p s) := by
  obtain ⟨RP, hRP⟩ : ∃ R, R = RetNew w p s := ⟨_, rfl⟩
  rw [← hRP]
  have HRP := Lib.hid hRP
  clear hRP
  have HN : Hid (partsN p = 16) := by show _ = _; unfold partsN; omega
  have HT : Hid (stayS s = 0) := by show _ = _; unfold stayS; omega
  have hmk : ∀ w : World, (Instr.makeSlice 41 (.int .i64 16) (.int .i64 16)).run Try.prog w = .ok (.slice (some ⟨w.heap.size, 0, none⟩) 16 16) (w.alloc (.cells (fvals 16 fun _ => 0).toArray 2)) := make_i 16 (by omega)
  have a1 : ¬ p < 0 := by omega
  have a2 : ¬ p ≤ 16 := by omega
  have a3 : 0 ≤ p := by omega
  have a4 : 0 < p := by omega
  have a5 : ¬ p < 16 := by omega
  have b1 : ¬ 0 < s := by omega
  have b2 : ¬ 0 ≤ s := by omega
  go_enter Try.func9, Try.ntmps9
  go_wp2_with fail
  rw [HRP.out]
  obtain ⟨f, hb⟩ := new_fi w 16 0 (by omega) ⟨by omega, by omega⟩
  refine ⟨_, w.heap.size, rfl, ?_, hb⟩
  rw [HN.out, HT.out]
  exact f

set_option maxHeartbeats 1000000 in
theorem new_hi_mid (w : World) (p : Int) (hp : 16 < p) (s : Int) (hs : 0 ≤ s) (hs2 : s ≤ 1000) : Calls Try.prog 9 #[.int .i64 p, .int .i64 s] w (RetNew w p s) := by
  obtain ⟨RP, hRP⟩ : ∃ R, R = RetNew w p s := ⟨_, rfl⟩
  rw [← hRP]
  have HRP := Lib.hid hRP
  clear hRP
  have HN : Hid (partsN p = 16) := by show _ = _; unfold partsN; omega
  have HT : Hid (stayS s = s) := by show _ = _; unfold stayS; omega
  have hmk : ∀ w : World, (Instr.makeSlice 41 (.int .i64 16) (.int .i64 16)).run Try.prog w = .ok (.slice (some ⟨w.heap.size, 0, none⟩) 16 16) (w.alloc (.cells (fvals 16 fun _ => 0).toArray 2)) := make_i 16 (by omega)
  have a1 : ¬ p < 0 := by omega
  have a2 : ¬ p ≤ 16 := by omega
  have a3 : 0 ≤ p := by omega
  have a4 : 0 < p := by omega
  have a5 : ¬ p < 16 := by omega
  have b1 : ¬ s < 0 := by omega
  have b2 : ¬ 1000 < s := by omega
  go_enter Try.func9, Try.ntmps9
  go_wp2_with fail
  rw [HRP.out]
  obtain ⟨f, hb⟩ := new_fi w 16 s (by omega) ⟨by omega, by omega⟩
  refine ⟨_, w.heap.size, rfl, ?_, hb⟩
  rw [HN.out, HT.out]
  exact f

set_option maxHeartbeats 1000000 in
theorem new_hi_hi (w : World) (p : Int) (hp : 16 < p) (s : Int) (hs : 1000 < s) : Calls Try.prog 9 #[.int .i64 p, .int .i64 s] w (RetNew w p s) := by
  obtain ⟨RP, hRP⟩ : ∃ R, R = RetNew w p s := ⟨_, rfl⟩
  rw [← hRP]
  have HRP := Lib.hid hRP
  clear hRP
  have HN : Hid (partsN p = 16) := by show _ = _; unfold partsN; omega
  have HT : Hid (stayS s = 1000) := by show _ = _; unfold stayS; omega
  have hmk : ∀ w : World, (Instr.makeSlice 41 (.int .i64 16) (.int .i64 16)).run Try.prog w = .ok (.slice (some ⟨w.heap.size, 0, none⟩) 16 16) (w.alloc (.cells (fvals 16 fun _ => 0).toArray 2)) := make_i 16 (by omega)
  have a1 : ¬ p < 0 := by omega
  have a2 : ¬ p ≤ 16 := by omega
  have a3 : 0 ≤ p := by omega
  have a4 : 0 < p := by omega
  have a5 : ¬ p < 16 := by omega
  have b1 : ¬ s < 0 := by omega
  have b2 : ¬ s ≤ 1000 := by omega
  have b3 : 0 ≤ s := by omega
  have b4 : 0 < s := by omega
  have b5 : ¬ s < 1000 := by omega
  go_enter Try.func9, Try.ntmps9
  go_wp2_with fail
  rw [HRP.out]
  obtain ⟨f, hb⟩ := new_fi w 16 1000 (by omega) ⟨by omega, by omega⟩
  refine ⟨_, w.heap.size, rfl, ?_, hb⟩
  rw [HN.out, HT.out]
  exact f

theorem new_any (w : World) (p s : Int) : Calls Try.prog 9 #[.int .i64 p, .int .i64 s] w (RetNew w p s) := by
  rcases Int.lt_or_le p 0 with h1 | h1
  · rcases Int.lt_or_le s 0 with h2 | h2
    · exact new_lo_lo w p h1 s h2
    · rcases Int.lt_or_le 1000 s with h3 | h3
      · exact new_lo_hi w p h1 s h3
      · exact new_lo_mid w p h1 s h2 h3
  · rcases Int.lt_or_le 16 p with h4 | h4
    · rcases Int.lt_or_le s 0 with h2 | h2
      · exact new_hi_lo w p h4 s h2
      · rcases Int.lt_or_le 1000 s with h3 | h3
        · exact new_hi_hi w p h4 s h3
        · exact new_hi_mid w p h4 s h2 h3
    · obtain ⟨n, rfl⟩ : ∃ n : Nat, p = (n : Int) := ⟨p.toNat, by omega⟩
      rcases Int.lt_or_le s 0 with h2 | h2
      · exact new_mid_lo w n (by omega) s h2
      · rcases Int.lt_or_le 1000 s with h3 | h3
        · exact new_mid_hi w n (by omega) s h3
        · exact new_mid_mid w n (by omega) s h2 h3

end Go.Proofs.Ytgophlafmobhfaa
