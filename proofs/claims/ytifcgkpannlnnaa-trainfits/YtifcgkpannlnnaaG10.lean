/- Contracts: eachOnce, Near. -/
import Derived.Test.YtifcgkpannlnnaaG9
import Derived.Sort.OwnSortedInts
import Derived.Lib.OwnBridge
import Derived.Sort.Grow
namespace Go.Proofs.Ytifcgkpannlnnaa
open Go.RowKit Fl Go.Sort
set_option maxRecDepth 100000

/-- Rising, each once. -/
def riseL (xs : List Int) : List Int := Lib.compact (xs.mergeSort fun x y => decide (x ≤ y))
theorem riseL_le (xs : List Int) : (riseL xs).length ≤ xs.length := by
  have h1 := Lib.compact_length_le (xs.mergeSort fun x y => decide (x ≤ y))
  rw [List.length_mergeSort] at h1; exact h1
theorem riseL_nil : riseL [] = [] := by
  have := riseL_le []
  exact List.length_eq_zero_iff.1 (by simpa using this)

def RetOwn (B : Nat) (xs : List Int) (w : World) (e : Ending) (w' : World) : Prop := ∃ v', e = .returned v' ∧ w'.ownsRow B 3 1 v' xs.length (ivals xs) ∧ Below B w w'

set_option maxHeartbeats 1000000 in
theorem eachOnce_any (w : World) (B : Nat) (v : Value) (xs : List Int) (ho : w.ownsRow B 3 1 v xs.length (ivals xs)) (hB : B ≤ w.heap.size) (hl : xs.length ≤ 100000) : Calls Try.prog 60 #[v] w (RetOwn B (riseL xs) w) := by
  rcases ho.2 with ⟨rfl, h0⟩ | ⟨g, cap, cur, rfl, hbase, hb, h1, h2, h3, h4⟩
  · have hx : xs = [] := List.length_eq_zero_iff.1 h0
    subst hx
    rw [riseL_nil]
    clear ho h0 hl
    go_enter Try.func60, Try.ntmps60
    go_wp2_with fail
    refine (Try.slices_Sort_int_none none 0 w).mono ?_; rintro e w' ⟨rfl, rfl⟩
    go_wp2_with fail
    refine (Try.slices_Compact_int_empty none 0 _).mono ?_; rintro e w' ⟨rfl, rfl⟩
    go_wp2_with fail
    go_ret
    exact ⟨_, rfl, World.ownsRow_nil _ _ _ _, Below.refl _ _⟩
  · have HH := Lib.hid (holds_of_blockI (ss := xs) hb (by rw [Nat.mul_one] at h4; exact h4))
    have hgl := heap_lt hb
    obtain ⟨ts, hts⟩ : ∃ ts, ts = xs.mergeSort fun x y => decide (x ≤ y) := ⟨_, rfl⟩
    have hl2 : ts.length = xs.length := by rw [hts]; exact List.length_mergeSort xs
    have HR : Hid (riseL xs = Lib.compact ts) := by show _ = _; rw [hts]; rfl
    have hle := Lib.compact_length_le ts
    obtain ⟨r, hr⟩ : ∃ r, riseL xs = r := ⟨_, rfl⟩
    rw [hr] at HR ⊢
    have HT := Lib.hid hts
    have HL2 := Lib.hid hl2
    have HOW : Hid (∀ n os, (grow (putRow (Value.int .i64) (Sort.ahead w n) g 0 ts.toArray) os).ownsRow B 3 1 (.slice (some ⟨g, 0, none⟩) xs.length cap) xs.length (ts.map (Value.int .i64))) := fun n os => ownsRow_sortedI hl2 hbase hb h1 h2 h3
    clear ho hb h3 h4 hr hts hl2
    obtain ⟨m, hm⟩ : ∃ m, xs.length = m := ⟨_, rfl⟩
    have HM := Lib.hid hm
    have hS := Try.slices_Sort_int g 0 cap xs w HH.out hgl (by omega)
    rw [hm] at hS HOW hl h1 HL2 ⊢
    have HS := Lib.hid hS
    clear hS hm
    go_enter Try.func60, Try.ntmps60
    go_wp2_with fail
    refine HS.out.mono ?_; rintro e w1 ⟨rfl, nn, os, hw1⟩
    rw [← HT.out] at hw1
    have HO1 : Hid (w1.ownsRow B 3 1 (.slice (some ⟨g, 0, none⟩) m cap) m (ts.map (Value.int .i64))) := by rw [hw1]; exact HOW.out nn os
    have HB1 : Hid (Below B w w1) := by
      rw [hw1]
      exact (Below.refl B w).grown (grownBy_sortedI _) hB (fun j hj => by cases hj; exact hbase)
    clear hw1
    have hH1 : Holds (Value.int .i64) w1 g 0 ts.toArray := by
      rcases HO1.out.2 with ⟨e0, _⟩ | ⟨g', cap', cur', e0, _, hb', _, _, _, h4'⟩
      · cases e0
      · injection e0 with e1 _ _
        injection e1 with e1
        injection e1 with e1
        subst e1
        exact holds_of_blockI hb' (by have := HL2.out; rw [Nat.mul_one] at h4'; rw [this]; exact h4')
    have hC := Try.slices_Compact_int g 0 cap ts w1 hH1 (by have := HL2.out; omega) (by have := HL2.out; omega)
    rw [HL2.out] at hC
    have HC := Lib.hid hC
    clear hC hH1
    go_wp2_with fail
    refine HC.out.mono ?_; rintro e w2 ⟨rfl, q, hw2⟩
    have HO2 : Hid (w2.ownsRow B 3 1 (.slice (some ⟨g, 0, none⟩) (Lib.compact ts).length cap) (Lib.compact ts).length (ivals (Lib.compact ts))) := by
      rw [hw2]
      have hc := Lib.ownsRow_putRow (q := q) (k := (Lib.compact ts).length) (ys := Lib.compact ts ++ List.replicate (m - (Lib.compact ts).length) 0) HO1.out (by have := HL2.out; simp; omega) (by have := HL2.out; omega)
      rw [List.take_left] at hc
      exact hc
    have HB2 : Hid (Below B w w2) := by rw [hw2]; exact Lib.below_putRow HB1.out hbase
    clear hw2
    go_wp2_with fail
    go_ret
    rw [HR.out]
    exact ⟨_, rfl, HO2.out, HB2.out⟩

end Go.Proofs.Ytifcgkpannlnnaa
