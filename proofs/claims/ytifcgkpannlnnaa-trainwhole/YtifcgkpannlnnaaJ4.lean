/- Contract: the document's examples. -/
import Derived.Test.YtifcgkpannlnnaaJ3
namespace Go.Proofs.Ytifcgkpannlnnaa
open Go.RowKit Fl
set_option maxRecDepth 100000

theorem Rd.lit (w : World) (xs : List Int) (cs : Array Value) (n : Nat) (hn : xs.length = n) (hc : cs = (ivals xs).toArray) : Rd (w.alloc (.cells cs 3)) (w.alloc (.cells cs 3)).heap.size (.slice (some ⟨w.heap.size, 0, none⟩) n n) (ivals xs) := by
  subst hn hc
  refine ⟨some ⟨w.heap.size, 0, none⟩, xs.length, by simp [ivals], ⟨(fun e => by cases e), by simp [ivals]⟩, fun _ => ⟨w.heap.size, 0, rfl, by simp, fun j u hu => ?_⟩⟩
  have h := (Row.new w 3 (ivals xs).toArray).cell j
  rw [Nat.zero_add, h]
  simpa using hu
theorem wf_in {n : Int} (h0 : -9223372036854775808 ≤ n) (h1 : n ≤ 9223372036854775807) : (Lit.int .i64 n).wf = true := by
  simp only [Lit.wf, Bool.and_eq_true, decide_eq_true_eq]
  exact ⟨h0, h1⟩
theorem in_wf {n : Int} (h : (Lit.int .i64 n).wf = true) : -9223372036854775808 ≤ n ∧ n ≤ 9223372036854775807 := by
  simp only [Lit.wf, Bool.and_eq_true, decide_eq_true_eq] at h
  exact h
theorem wf_of {xs : List Int} (h : ∀ n ∈ xs, -9223372036854775808 ≤ n ∧ n ≤ 9223372036854775807) : Wf xs := fun n hn => wf_in (h n hn).1 (h n hn).2

theorem ex_one (w : World) (va vb : Value) (ha : Rd w w.heap.size va (ivals [8, 7])) (hb : Rd w w.heap.size vb (ivals [8, 7, 6, 5])) : Calls Try.prog 19 #[va, vb] w (RetOwn w.heap.size [8, 7, 6, 5] w) := by
  have h := join_any w va vb [8, 7] [8, 7, 6, 5] ha hb (by decide) (by decide) (wf_of (by decide)) (wf_of (by decide))
  rw [show joinL [8, 7] [8, 7, 6, 5] = [8, 7, 6, 5] by decide] at h
  exact h
theorem ex_two (w : World) (va vb : Value) (ha : Rd w w.heap.size va (ivals [8, 7])) (hb : Rd w w.heap.size vb (ivals [6, 5])) : Calls Try.prog 19 #[va, vb] w (RetOwn w.heap.size [8, 7, 6, 5] w) := by
  have h := join_any w va vb [8, 7] [6, 5] ha hb (by decide) (by decide) (wf_of (by decide)) (wf_of (by decide))
  rw [show joinL [8, 7] [6, 5] = [8, 7, 6, 5] by decide] at h
  exact h
theorem ex_ints (w : World) (va vb : Value) (ha : Rd w w.heap.size va (ivals [8, 7, 6, 5])) (hb : Rd w w.heap.size vb (ivals [8, 7, 6, 5])) : Calls Try.prog 20 #[va, vb] w (RetB true w) := by
  have h := ints_any w _ va vb [8, 7, 6, 5] [8, 7, 6, 5] ha hb (by decide)
  rw [show decide (([8, 7, 6, 5] : List Int) = [8, 7, 6, 5]) = true by decide] at h
  exact h

set_option maxHeartbeats 4000000 in
theorem nothing_any (w : World) : Calls Try.prog 10 #[] w (RetL true w) := by
  have HB0 : Hid (Below w.heap.size w ((w.alloc (.cells #[.int .i64 8, .int .i64 7] 3)).alloc (.cells #[.int .i64 8, .int .i64 7, .int .i64 6, .int .i64 5] 3))) := below2 w _ _
  have ha := Rd.lit w [8, 7] #[.int .i64 8, .int .i64 7] 2 rfl rfl
  have hb := Rd.lit (w.alloc (.cells #[.int .i64 8, .int .i64 7] 3)) [8, 7, 6, 5] #[.int .i64 8, .int .i64 7, .int .i64 6, .int .i64 5] 4 rfl rfl
  have HA := Lib.hid (ha.up ((Below.refl _ _).alloc (Nat.le_refl _) (.cells #[.int .i64 8, .int .i64 7, .int .i64 6, .int .i64 5] 3)))
  have HE : Hid ((w.alloc (.cells #[.int .i64 8, .int .i64 7] 3)).heap.size = w.heap.size + 1) := World.size_alloc _ _
  rw [HE.out] at hb
  have HB := Lib.hid hb
  clear ha hb HE
  go_enter Try.func10, Try.ntmps10
  go_wp2_with fail
  refine (ex_one _ _ _ HA.out HB.out).mono ?_; rintro e w1 ⟨v1, rfl, ho, hb⟩
  have HB1 : Hid (Below w.heap.size w w1) := HB0.out.trans (hb.mono HB0.out.size)
  have HL1 := Lib.hid (Rd.lit w1 [8, 7, 6, 5] #[.int .i64 8, .int .i64 7, .int .i64 6, .int .i64 5] 4 rfl rfl)
  have hb1 : Below w1.heap.size w1 (w1.alloc (.cells #[.int .i64 8, .int .i64 7, .int .i64 6, .int .i64 5] 3)) := (Below.refl _ _).alloc (Nat.le_refl _) _
  have HR1 := Lib.hid ((Rd.of_own ho).up hb1)
  have HB2 : Hid (Below w.heap.size w (w1.alloc (.cells #[.int .i64 8, .int .i64 7, .int .i64 6, .int .i64 5] 3))) := HB1.out.trans (hb1.mono HB1.out.size)
  clear hb ho hb1 HB0 HA HB HB1
  go_wp2_with fail
  refine (ex_ints _ _ _ HR1.out HL1.out).mono ?_; rintro e w2 ⟨rfl, n, hw2⟩
  have HB3 : Hid (Below w.heap.size w w2) := by rw [hw2]; exact Below.drewN HB2.out n
  clear hw2 HB2 HR1 HL1
  have HB4 : Hid (Below w.heap.size w ((w2.alloc (.cells #[.int .i64 8, .int .i64 7] 3)).alloc (.cells #[.int .i64 6, .int .i64 5] 3))) := HB3.out.trans ((below2 w2 _ _).mono HB3.out.size)
  have ha := Rd.lit w2 [8, 7] #[.int .i64 8, .int .i64 7] 2 rfl rfl
  have hb := Rd.lit (w2.alloc (.cells #[.int .i64 8, .int .i64 7] 3)) [6, 5] #[.int .i64 6, .int .i64 5] 2 rfl rfl
  have HA := Lib.hid (ha.up ((Below.refl _ _).alloc (Nat.le_refl _) (.cells #[.int .i64 6, .int .i64 5] 3)))
  have HE : Hid ((w2.alloc (.cells #[.int .i64 8, .int .i64 7] 3)).heap.size = w2.heap.size + 1) := World.size_alloc _ _
  rw [HE.out] at hb
  have HB := Lib.hid hb
  clear ha hb HE HB3
  go_wp2_with fail
  refine (ex_two _ _ _ HA.out HB.out).mono ?_; rintro e w3 ⟨v3, rfl, ho, hb⟩
  have HB5 : Hid (Below w.heap.size w w3) := HB4.out.trans (hb.mono HB4.out.size)
  have HL3 := Lib.hid (Rd.lit w3 [8, 7, 6, 5] #[.int .i64 8, .int .i64 7, .int .i64 6, .int .i64 5] 4 rfl rfl)
  have hb1 : Below w3.heap.size w3 (w3.alloc (.cells #[.int .i64 8, .int .i64 7, .int .i64 6, .int .i64 5] 3)) := (Below.refl _ _).alloc (Nat.le_refl _) _
  have HR3 := Lib.hid ((Rd.of_own ho).up hb1)
  have HB6 : Hid (Below w.heap.size w (w3.alloc (.cells #[.int .i64 8, .int .i64 7, .int .i64 6, .int .i64 5] 3))) := HB5.out.trans (hb1.mono HB5.out.size)
  clear hb ho hb1 HB4 HA HB HB5
  go_wp2_with fail
  refine (ex_ints _ _ _ HR3.out HL3.out).mono ?_; rintro e w4 ⟨rfl, n4, hw4⟩
  have HB7 : Hid (Below w.heap.size w w4) := by rw [hw4]; exact Below.drewN HB6.out n4
  clear hw4 HB6 HR3 HL3
  go_wp2_with fail
  go_ret
  exact ⟨rfl, HB7.out⟩

end Go.Proofs.Ytifcgkpannlnnaa
