/- For VerifyTurns: of two sections that meet at a joint, which rule is broken first. -/
import Derived.Test.YtagkgejdammflaaGreatV32
import Derived.Laws.OwnMore
namespace Go.Proofs.YtagkgejdammflaaGreat
open Go.RowKit Fl
set_option maxRecDepth 100000

/-- Two sections that meet at the second node. -/
def turnL (x y l : Int) : Lay := ⟨[(0, 0), (100, 0), (100 + x, y)], [(100, 0, 1), (100 + l, 2, 1)], [[0, 1]], [], [], 100, 1, 1, 1, 0⟩

theorem turn_holds (x y l : Int) (hx : -128 ≤ x ∧ x ≤ 127) (hy : -128 ≤ y ∧ y ≤ 127) (hl : 0 ≤ l ∧ l ≤ 255) (h0 : ¬ (100 + x = 0 ∧ y = 0)) (h1 : ¬ (100 + x = 100 ∧ y = 0)) (hd : x * x + y * y ≤ (100 + l) * (100 + l)) :
    ∀ k, k < 17 → k ≠ 11 → Holds17 (turnL x y l) k := by
  intro k hk hne p hp
  match k, hk, hne, hp with
  | 0, _, _, _ => rfl
  | 1, _, _, hp =>
    have hp3 : p < 3 := hp
    have hpl : p < (turnL x y l).nodes.length := hp
    have e : ruleB (turnL x y l) 1 p = ownPlaceB (turnL x y l) p hpl := by show (if h : p < (turnL x y l).nodes.length then ownPlaceB (turnL x y l) p h else false) = _; rw [dif_pos hpl]
    rw [e]
    rcases (show p = 0 ∨ p = 1 ∨ p = 2 by omega) with rfl | rfl | rfl
    · rfl
    · rfl
    · have n1 : ((100 + x, y) : Int × Int) ≠ (0, 0) := fun h => h0 (by simpa using h)
      have n2 : ((100 + x, y) : Int × Int) ≠ (100, 0) := fun h => h1 (by simpa using h)
      have n3 : ((100 + x, y) : Int × Int) ∉ [((0, 0) : Int × Int), (100, 0)] := by
        intro h
        rw [List.mem_cons, List.mem_singleton] at h
        exact h.elim n1 n2
      show (placeB (100 + x, y) && !decide (((100 + x, y) : Int × Int) ∈ [((0, 0) : Int × Int), (100, 0)])) = true
      rw [decide_eq_false n3]
      unfold placeB
      simp only [Bool.and_eq_true, decide_eq_true_eq, Bool.not_false, and_true]
      omega
  | 2, _, _, _ => rfl
  | 3, _, _, hp =>
    have hp3 : p < 2 := hp
    rcases (show p = 0 ∨ p = 1 by omega) with rfl | rfl
    · rfl
    · show (inB 2 0 2 && (inB 1 0 2 && fitsB (100 - (100 + x)) (0 - y) (100 + l))) = true
      have f : fitsB (100 - (100 + x)) (0 - y) (100 + l) = true := by
        unfold fitsB
        rw [decide_eq_true_eq]
        refine ⟨by omega, by omega, by omega, ?_⟩
        have e1 : (100 - (100 + x)) * (100 - (100 + x)) = x * x := by rw [show 100 - (100 + x) = -x by omega, Int.neg_mul_neg]
        have e2 : (0 - y) * (0 - y) = y * y := by rw [show 0 - y = -y by omega, Int.neg_mul_neg]
        rw [e1, e2]; exact hd
      rw [f]; rfl
  | 4, _, _, _ => rfl
  | 5, _, _, hp =>
    have hp3 : p < 2 := hp
    rcases (show p = 0 ∨ p = 1 by omega) with rfl | rfl
    · rfl
    · show decide (100 ≤ 100 + l) = true
      rw [decide_eq_true_eq]; omega
  | 6, _, _, _ => rfl
  | 7, _, _, hp =>
    have hp3 : p < 3 := hp
    rcases (show p = 0 ∨ p = 1 ∨ p = 2 by omega) with rfl | rfl | rfl <;> rfl
  | 8, _, _, _ => rfl
  | 9, _, _, hp => exact absurd hp (by show ¬ p < 0; omega)
  | 10, _, _, hp =>
    have hp3 : p < 3 := hp
    rcases (show p = 0 ∨ p = 1 ∨ p = 2 by omega) with rfl | rfl | rfl <;> rfl
  | 11, _, hne, _ => exact absurd rfl hne
  | 12, _, _, _ => rfl
  | 13, _, _, hp =>
    have hp3 : p < 1 := hp
    obtain rfl : p = 0 := by omega
    rfl
  | 14, _, _, hp =>
    have hp3 : p < 2 := hp
    rcases (show p = 0 ∨ p = 1 by omega) with rfl | rfl <;> rfl
  | 15, _, _, _ => rfl
  | 16, _, _, hp => exact absurd hp (by show ¬ p < 0; omega)
  | n + 17, hk, _, _ => omega

theorem turn_goes (x y l : Int) : ruleB (turnL x y l) 11 0 = true ∧ ruleB (turnL x y l) 11 1 = decide (0 < x) ∧ ruleB (turnL x y l) 11 2 = true := by
  refine ⟨rfl, ?_, rfl⟩
  have e : ruleB (turnL x y l) 11 1 = decide (0 < (100 - 0) * (100 + x - 100) + (0 - 0) * (y - 0)) := rfl
  rw [e]
  congr 1
  apply propext
  omega

theorem turn_first (x y l : Int) (hx : -128 ≤ x ∧ x ≤ 127) (hy : -128 ≤ y ∧ y ≤ 127) (hl : 0 ≤ l ∧ l ≤ 255) (h0 : ¬ (100 + x = 0 ∧ y = 0)) (h1 : ¬ (100 + x = 100 ∧ y = 0)) (hd : x * x + y * y ≤ (100 + l) * (100 + l)) :
    firstL (turnL x y l) = if x ≤ 0 then (12, 1) else (0, 0) := by
  have hh := turn_holds x y l hx hy hl h0 h1 hd
  obtain ⟨g0, g1, g2⟩ := turn_goes x y l
  by_cases hx0 : x ≤ 0
  · rw [if_pos hx0]
    have hp0 : ∀ p', p' < 1 → ruleB (turnL x y l) 11 p' = true := fun p' h => by
      have e : p' = 0 := by omega
      subst e; exact g0
    have hb := firstL_bad (L := turnL x y l) (k := 11) (p := 1) (by decide) (fun k' h => hh k' (by omega) (by omega)) (show 1 < 3 by decide) hp0 (by rw [g1, decide_eq_false (by omega)])
    exact hb
  · rw [if_neg hx0]
    apply firstL_good
    intro k hk
    by_cases h11 : k = 11
    · subst h11
      intro p hp
      have hp3 : p < 3 := hp
      rcases (show p = 0 ∨ p = 1 ∨ p = 2 by omega) with rfl | rfl | rfl
      · exact g0
      · rw [g1, decide_eq_true (by omega)]
      · exact g2
    · exact hh k hk h11
theorem turn_vf (x y l : Int) : Vf2 (turnL x y l) := by
  refine ⟨⟨⟨?_, ?_, ?_, ?_⟩, ?_, ?_⟩, fun r hr => absurd (show r ∈ ([] : List (List Int)) from hr) (by simp)⟩
  · show 2 ≤ 100; decide
  · show 0 ≤ 100; decide
  · show 1 ≤ 100; decide
  · intro r hr
    have hr2 : r ∈ [[(0 : Int), 1]] := hr
    rw [List.mem_singleton] at hr2
    subst hr2
    decide
  · show 3 ≤ 1000; decide
  · show 0 ≤ 1000; decide
theorem i8_in {a : Int} (h : (Lit.int .i8 a).wf = true) : -128 ≤ a ∧ a ≤ 127 := by
  simp only [Lit.wf, Bool.and_eq_true, decide_eq_true_eq] at h
  rw [show IntKind.i8.min = -128 from by decide, show IntKind.i8.max = 127 from by decide] at h
  exact h
theorem fl_hundred : Fl 0 4636737291354636288 100 := by
  have h := fl_ofInt 100 (by decide)
  rwa [show floatOfInt .f64 100 = 4636737291354636288 from by decide +kernel] at h
def turnC (b : Nat) : Array Value := #[.slice (some ⟨b, 0, none⟩) 3 3, .slice (some ⟨b + 1, 0, none⟩) 2 2, .slice (some ⟨b + 1 + 1 + 1, 0, none⟩) 1 1, .slice none 0 0, .slice none 0 0, .int .i64 100, .int .i64 1, .int .i64 1, .int .i64 1, .int .i64 0]
/-- The layout that the law builds. -/
theorem turn_st {w wA : World} (hb : Below w.heap.size w wA) (x y l : Int) (fx fy : Nat) (hfx : Fl 0 fx (100 + x)) (hfy : Fl 0 fy y) :
    FiSt w (wA.heap.size + 1 + 1 + 1 + 1) (turnC wA.heap.size) (turnL x y l) (((((wA.alloc (.cells #[.complex .f64 0 0, .complex .f64 4636737291354636288 0, .complex .f64 fx fy] 36)).alloc (.cells #[.int .i64 100, .int .i64 0, .int .i64 1, .int .i64 (100 + l), .int .i64 2, .int .i64 1] 39)).alloc (.cells #[.int .i64 0, .int .i64 1] 3)).alloc (.cells #[.slice (some ⟨wA.heap.size + 1 + 1, 0, none⟩) 2 2] 42)).alloc (.cells (turnC wA.heap.size) 33)) := by
  obtain ⟨W1, h1⟩ : ∃ W, W = wA.alloc (.cells #[.complex .f64 0 0, .complex .f64 4636737291354636288 0, .complex .f64 fx fy] 36) := ⟨_, rfl⟩
  have o1 := World.ownsRow_lit (base := 0) (size := 1) (e := 36) wA #[.complex .f64 0 0, .complex .f64 4636737291354636288 0, .complex .f64 fx fy] 3 (Nat.zero_le _) (by decide) rfl
  have s1 : W1.heap.size = wA.heap.size + 1 := by rw [h1]; simp
  have b1 : Below wA.heap.size wA W1 := by rw [h1]; exact (Below.refl _ _).alloc (Nat.le_refl _) _
  rw [← h1] at o1 ⊢
  clear h1
  obtain ⟨W2, h2⟩ : ∃ W, W = W1.alloc (.cells #[.int .i64 100, .int .i64 0, .int .i64 1, .int .i64 (100 + l), .int .i64 2, .int .i64 1] 39) := ⟨_, rfl⟩
  have o2 := World.ownsRow_lit (base := 0) (size := 3) (e := 39) W1 #[.int .i64 100, .int .i64 0, .int .i64 1, .int .i64 (100 + l), .int .i64 2, .int .i64 1] 2 (Nat.zero_le _) (by decide) rfl
  have s2 : W2.heap.size = wA.heap.size + 1 + 1 := by rw [h2]; simp [s1]
  have b2 : Below W1.heap.size W1 W2 := by rw [h2]; exact (Below.refl _ _).alloc (Nat.le_refl _) _
  rw [← h2] at o2 ⊢
  rw [s1] at o2
  clear h2
  obtain ⟨W3, h3⟩ : ∃ W, W = W2.alloc (.cells #[.int .i64 0, .int .i64 1] 3) := ⟨_, rfl⟩
  have o3 := World.ownsRow_lit (base := 0) (size := 1) (e := 3) W2 #[.int .i64 0, .int .i64 1] 2 (Nat.zero_le _) (by decide) rfl
  have s3 : W3.heap.size = wA.heap.size + 1 + 1 + 1 := by rw [h3]; simp [s2]
  have b3 : Below W2.heap.size W2 W3 := by rw [h3]; exact (Below.refl _ _).alloc (Nat.le_refl _) _
  rw [← h3] at o3 ⊢
  rw [s2] at o3
  clear h3
  obtain ⟨W4, h4⟩ : ∃ W, W = W3.alloc (.cells #[.slice (some ⟨wA.heap.size + 1 + 1, 0, none⟩) 2 2] 42) := ⟨_, rfl⟩
  have o4 := World.ownsRow_lit (base := 0) (size := 1) (e := 42) W3 #[.slice (some ⟨wA.heap.size + 1 + 1, 0, none⟩) 2 2] 1 (Nat.zero_le _) (by decide) rfl
  have s4 : W4.heap.size = wA.heap.size + 1 + 1 + 1 + 1 := by rw [h4]; simp [s3]
  have b4 : Below W3.heap.size W3 W4 := by rw [h4]; exact (Below.refl _ _).alloc (Nat.le_refl _) _
  rw [← h4] at o4 ⊢
  rw [s3] at o4
  clear h4
  have b5 : Below W4.heap.size W4 (W4.alloc (.cells (turnC wA.heap.size) 33)) := (Below.refl _ _).alloc (Nat.le_refl _) _
  have r5 := Row.new W4 33 (turnC wA.heap.size)
  rw [s4] at r5
  generalize W4.alloc (.cells (turnC wA.heap.size) 33) = W5 at *
  have z2 := hb.trans (b1.mono hb.size)
  have z3 := z2.trans (b2.mono z2.size)
  have z4 := z3.trans (b3.mono z3.size)
  have z5 := z4.trans (b4.mono z4.size)
  refine ⟨z5.trans (b5.mono z5.size), r5, .slice (some ⟨wA.heap.size, 0, none⟩) 3 3, .slice (some ⟨wA.heap.size + 1, 0, none⟩) 2 2, .slice (some ⟨wA.heap.size + 1 + 1 + 1, 0, none⟩) 1 1, .slice none 0 0, .slice none 0 0, [(0, 0), (4636737291354636288, 0), (fx, fy)], rfl, ?_⟩
  have p1 := own_below (own_below (own_below (own_below o1 b2) b3) b4) b5
  have p2 := own_below (own_below (own_below o2 b3) b4) b5
  have p3 := own_below (own_below o3 b4) b5
  have p4 := own_below o4 b5
  refine ⟨Rd.of_own p1, ⟨rfl, fun i h1 h2 => ?_⟩, Secs.of_own (xs := [(100, 0, 1), (100 + l, 2, 1)]) p2, ⟨_, Rd.of_own p4, rfl, fun i h1 h2 => ?_⟩, ⟨none, 0, rfl, fun h => absurd h (by show ¬ 0 < 0; omega)⟩, ⟨[], Rd.empty _ _, rfl, fun i h1 => absurd h1 (by simp)⟩⟩
  · have hi : i < 3 := h1
    rcases (show i = 0 ∨ i = 1 ∨ i = 2 by omega) with rfl | rfl | rfl
    · exact ⟨fl_zero, fl_zero⟩
    · exact ⟨fl_hundred, fl_zero⟩
    · exact ⟨hfx, hfy⟩
  · have hi : i < 1 := h1
    obtain rfl : i = 0 := by omega
    exact Rd.of_own p3
end Go.Proofs.YtagkgejdammflaaGreat
