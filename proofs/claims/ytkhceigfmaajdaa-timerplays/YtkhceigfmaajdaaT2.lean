/- Contracts: cmp.Compare, cmp.Or, compare. -/
import Derived.Test.YtkhceigfmaajdaaT1
namespace Go.Proofs.Ytkhceigfmaajdaa
open Go.RowKit
set_option maxRecDepth 100000

def cmp3 (a b : Int) : Int := if a < b then -1 else if b < a then 1 else 0
/-- A timer's number and its tick: which comes first? -/
def cmpT (a b : Int × Int) : Int := if cmp3 a.2 b.2 = 0 then cmp3 a.1 b.1 else cmp3 a.2 b.2
def ltT (a b : Int × Int) : Prop := a.2 < b.2 ∨ a.2 = b.2 ∧ a.1 < b.1

theorem cmpT_lt (a b : Int × Int) : cmpT a b < 0 ↔ ltT a b := by
  unfold cmpT cmp3 ltT
  split <;> split <;> (try split) <;> omega
theorem ltT_trans {a b c : Int × Int} (h : ltT a b) (k : ltT b c) : ltT a c := by unfold ltT at *; omega
theorem ltT_irrefl (a : Int × Int) : ¬ ltT a a := by unfold ltT; omega

theorem isNaN64 (w : World) (a : Int) : Calls Try.prog 38 #[.int .i64 a] w fun e w' => e = .returned (.bool false) ∧ w = w' := by
  go_enter Try.func38, Try.ntmps38
  go_wp2_with fail
  go_ret
  exact ⟨by simp, rfl⟩
theorem isNaN (w : World) (a : Int) : Calls Try.prog 39 #[.int .i64 a] w fun e w' => e = .returned (.bool false) ∧ w = w' := by
  go_enter Try.func39, Try.ntmps39
  go_wp2_with fail
  go_ret
  exact ⟨by simp, rfl⟩

set_option maxHeartbeats 1000000 in
theorem compare64 (w : World) (a b : Int) : Calls Try.prog 32 #[.int .i64 a, .int .i64 b] w fun e w' => e = .returned (.int .i64 (cmp3 a b)) ∧ w = w' := by
  have HC : Hid ((a < b → cmp3 a b = -1) ∧ (¬ a < b → b < a → cmp3 a b = 1) ∧ (¬ a < b → ¬ b < a → cmp3 a b = 0)) := by
    refine ⟨fun h => ?_, fun h h2 => ?_, fun h h2 => ?_⟩ <;> simp [cmp3, *]
  generalize cmp3 a b = r at *
  go_enter Try.func32, Try.ntmps32
  go_wp2_with fail
  refine (isNaN64 w a).mono ?_; rintro e w' ⟨rfl, rfl⟩
  go_wp2_with fail
  refine (isNaN64 w b).mono ?_; rintro e w' ⟨rfl, rfl⟩
  go_wp2_with fail
  all_goals go_ret
  · rename_i h
    exact ⟨ret_int (HC.out.1 h).symm, rfl⟩
  · rename_i h h2
    exact ⟨ret_int (HC.out.2.1 (by omega) h2).symm, rfl⟩
  · exact ⟨ret_int (HC.out.2.2 (by omega) (by omega)).symm, rfl⟩

set_option maxHeartbeats 1000000 in
theorem compareI (w : World) (a b : Int) : Calls Try.prog 33 #[.int .i64 a, .int .i64 b] w fun e w' => e = .returned (.int .i64 (cmp3 a b)) ∧ w = w' := by
  have HC : Hid ((a < b → cmp3 a b = -1) ∧ (¬ a < b → b < a → cmp3 a b = 1) ∧ (¬ a < b → ¬ b < a → cmp3 a b = 0)) := by
    refine ⟨fun h => ?_, fun h h2 => ?_, fun h h2 => ?_⟩ <;> simp [cmp3, *]
  generalize cmp3 a b = r at *
  go_enter Try.func33, Try.ntmps33
  go_wp2_with fail
  refine (isNaN w a).mono ?_; rintro e w' ⟨rfl, rfl⟩
  go_wp2_with fail
  refine (isNaN w b).mono ?_; rintro e w' ⟨rfl, rfl⟩
  go_wp2_with fail
  all_goals go_ret
  · rename_i h
    exact ⟨ret_int (HC.out.1 h).symm, rfl⟩
  · rename_i h h2
    exact ⟨ret_int (HC.out.2.1 (by omega) h2).symm, rfl⟩
  · exact ⟨ret_int (HC.out.2.2 (by omega) (by omega)).symm, rfl⟩

/-- The first that isn't 0. -/
def orL (xs : List Int) : Int := (xs.find? fun x => !(x == 0)).getD 0

theorem orL_at {xs : List Int} {i : Nat} (hi : i < xs.length) (h : xs[i] ≠ 0) (hb : ∀ j (hj : j < xs.length), j < i → xs[j] = 0) : orL xs = xs[i] := by
  unfold orL
  have e : xs.find? (fun x => !(x == 0)) = some xs[i] := by
    rw [List.find?_eq_some_iff_getElem]
    refine ⟨by simpa using h, i, hi, rfl, fun j hj => by simpa using hb j (by omega) hj⟩
  rw [e]; rfl
theorem orL_none {xs : List Int} (hb : ∀ j (hj : j < xs.length), xs[j] = 0) : orL xs = 0 := by
  unfold orL
  have e : xs.find? (fun x => !(x == 0)) = none := by
    rw [List.find?_eq_none]
    intro x hx
    obtain ⟨j, hj, rfl⟩ := List.getElem_of_mem hx
    simpa using hb j hj
  rw [e]; rfl

set_option maxHeartbeats 1000000 in
theorem or_any (w : World) (D : Nat) (v : Value) (xs : List Int) (h : Rd w D v (ivals xs)) (hl : xs.length ≤ 100) : Calls Try.prog 31 #[v] w fun e w' => e = .returned (.int .i64 (orL xs)) ∧ w = w' := by
  have HP := Lib.hid h
  obtain ⟨A, c, rfl, -⟩ := h
  simp only [ivals_length] at *
  obtain ⟨r, hr⟩ : ∃ r, orL xs = r := ⟨_, rfl⟩
  rw [hr]
  have HR := Lib.hid hr
  clear hr
  obtain ⟨m, hm⟩ : ∃ m, xs.length = m := ⟨_, rfl⟩
  rw [hm] at HP hl ⊢
  have HM := Lib.hid hm
  clear hm
  go_enter Try.func31, Try.ntmps31
  go_wp2_with fail
  go_loopw [8] (fun k wr => ∃ i : Nat, i ≤ m ∧ k = .int .i64 i ∧ Hid (∀ j (hj : j < xs.length), j < i → xs[j] = 0) ∧ wr = w) (fun k _ => m - (intOf k).toNat)
  case atStart => exact ⟨0, Nat.zero_le _, rfl, fun j _ hj => absurd hj (by omega), rfl⟩
  case round =>
    obtain ⟨i, hi, rfl, HJ, rfl⟩ := hrel
    by_cases hlt : i < m
    · have him : i < xs.length := by have := HM.out; omega
      obtain ⟨b, o, rfl, hb, c0⟩ := HP.out.at (ivals_get xs i him)
      have HQ1 : Hid (xs[i] ≠ 0 → r = xs[i]) := fun e => by rw [← HR.out]; exact orL_at him e HJ.out
      have HQ2 : Hid (xs[i] = 0 → ∀ j (hj : j < xs.length), j < i + 1 → xs[j] = 0) := fun e j hj hji => by
        rcases Nat.lt_or_ge j i with c | c
        · exact HJ.out j hj c
        · obtain rfl : j = i := by omega
          exact e
      generalize xs[i] = z at *
      by_cases hz : z = 0
      · have hz2 : (z == 0) = true := by simpa using hz
        have HN2 := Lib.hid (HQ2.out hz)
        clear HQ1 HQ2 hz
        go_wp2_with fail
        go_roundw
        case rel => exact ⟨i + 1, by omega, by go_num, HN2, trivial⟩
        case measure => simp [intOf]; omega
      · have hz2 : (z == 0) = false := by simpa using hz
        have HF := Lib.hid (HQ1.out hz)
        clear HQ1 HQ2
        go_wp2_with fail
        go_ret
        exact ⟨ret_int HF.out.symm, rfl⟩
    · have HF : Hid (r = 0) := by
        show _ = _
        rw [← HR.out]
        exact orL_none fun j hj => HJ.out j hj (by have := HM.out; omega)
      go_wp2_with fail
      go_ret
      exact ⟨ret_int HF.out.symm, rfl⟩

theorem orL_cmp (a b : Int × Int) : orL [cmp3 a.2 b.2, cmp3 a.1 b.1] = cmpT a b := by
  unfold orL cmpT
  by_cases h : cmp3 a.2 b.2 = 0
  · by_cases h2 : cmp3 a.1 b.1 = 0
    · simp [h, h2]
    · simp [h, h2]
  · simp [h]

theorem rd_two (w : World) (x y : Int) : Rd (w.alloc (.cells #[.int .i64 x, .int .i64 y] 3)) (w.alloc (.cells #[.int .i64 x, .int .i64 y] 3)).heap.size (.slice (some ⟨w.heap.size, 0, none⟩) 2 2) (ivals [x, y]) := by
  have hr := Row.new w 3 #[.int .i64 x, .int .i64 y]
  refine ⟨_, _, rfl, ⟨fun h => (by cases h), Nat.le_refl _⟩, fun _ => ⟨_, _, rfl, by simp, fun j u hu => ?_⟩⟩
  rw [Nat.zero_add, hr.cell j]
  simpa [ivals] using hu

theorem or_two (w : World) (x y : Int) : Calls Try.prog 31 #[.slice (some ⟨w.heap.size, 0, none⟩) 2 2] (w.alloc (.cells #[.int .i64 x, .int .i64 y] 3)).drew fun e w' => e = .returned (.int .i64 (orL [x, y])) ∧ (w.alloc (.cells #[.int .i64 x, .int .i64 y] 3)).drew = w' :=
  or_any _ _ _ [x, y] ((rd_two w x y).mono (Nat.le_refl _) (fun _ _ => rfl)) (by simp)

set_option maxHeartbeats 4000000 in
theorem compare_any (w : World) (a b : Int × Int) : Calls Try.prog 25 #[.agg #[.int .i64 a.1, .int .i64 a.2], .agg #[.int .i64 b.1, .int .i64 b.2]] w fun e w' => e = .returned (.int .i64 (cmpT a b)) ∧ Below w.heap.size w w' := by
  have HC := Lib.hid (orL_cmp a b)
  generalize cmpT a b = r at *
  obtain ⟨a0, a1⟩ := a
  obtain ⟨b0, b1⟩ := b
  simp only at HC ⊢
  obtain ⟨x, hx⟩ : ∃ x, cmp3 a1 b1 = x := ⟨_, rfl⟩
  obtain ⟨y, hy⟩ : ∃ y, cmp3 a0 b0 = y := ⟨_, rfl⟩
  rw [hx, hy] at HC
  have HXY : Hid (cmp3 a1 b1 = x ∧ cmp3 a0 b0 = y) := ⟨hx, hy⟩
  clear hx hy
  go_enter Try.func25, Try.ntmps25
  go_upto_region 1 with (fail)
  have HB := Lib.hid (((Below.refl w.heap.size w).alloc (Nat.le_refl _) (.cells #[.int .i64 a0, .int .i64 a1] 61)).alloc (by simp) (.cells #[.int .i64 b0, .int .i64 b1] 61))
  have r1 := (Row.new w 61 #[.int .i64 a0, .int .i64 a1]).alloc (.cells #[.int .i64 b0, .int .i64 b1] 61)
  have r2 := Row.new (w.alloc (.cells #[.int .i64 a0, .int .i64 a1] 61)) 61 #[.int .i64 b0, .int .i64 b1]
  rw [show (w.alloc (.cells #[.int .i64 a0, .int .i64 a1] 61)).heap.size = w.heap.size + 1 by simp] at r2
  generalize ((w.alloc (.cells #[.int .i64 a0, .int .i64 a1] 61)).alloc (.cells #[.int .i64 b0, .int .i64 b1] 61)) = W at *
  generalize hn : w.heap.size = n at *
  have c0 := r1.cell 0; have c1 := r1.cell 1; have c2 := r2.cell 0; have c3 := r2.cell 1
  simp only [List.getElem?_toArray, List.getElem?_cons_zero, List.getElem?_cons_succ] at c0 c1 c2 c3
  have s0 : (W.cell? ⟨n, 0, none⟩ = some (.int .i64 a0) ∧ W.cell? ⟨n, 1, none⟩ = some (.int .i64 a1)) ∧ W.cell? ⟨n + 1, 0, none⟩ = some (.int .i64 b0) ∧ W.cell? ⟨n + 1, 1, none⟩ = some (.int .i64 b1) := ⟨⟨c0, c1⟩, c2, c3⟩
  have HN := Lib.hid hn
  clear r1 r2 hn c0 c1 c2 c3
  go_region_held3 (fun w' => (w'.cell? ⟨n, 0, none⟩ = some (.int .i64 a0) ∧ w'.cell? ⟨n, 1, none⟩ = some (.int .i64 a1)) ∧ w'.cell? ⟨n + 1, 0, none⟩ = some (.int .i64 b0) ∧ w'.cell? ⟨n + 1, 1, none⟩ = some (.int .i64 b1)) (first | exact s0 | go_keep) (first | (go_at_call 32; (with_reducible refine (compare64 _ a1 b1).mono ?_); rintro e w' ⟨rfl, rfl⟩; rw [HXY.out.1]) | (go_at_call 33; (with_reducible refine (compareI _ a0 b0).mono ?_); rintro e w' ⟨rfl, rfl⟩; rw [HXY.out.2]) | (go_at_call 31; (with_reducible refine (or_two _ x y).mono ?_); rintro e w' ⟨rfl, rfl⟩; rw [HC.out]))
  go_wp2_with fail
  go_ret
  rw [HN.out]
  exact ⟨rfl, (HB.out.alloc (by have := HB.out.size; have := HN.out; omega) _).drew⟩

end Go.Proofs.Ytkhceigfmaajdaa
