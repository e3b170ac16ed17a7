/- The example that every law of the layer asks first. -/
import Derived.Test.YtgefpeppjkggmaaOpen
import Derived.Lib.SlBytesConst
namespace Go.Proofs.Ytgefpeppjkggmaa
open Go.RowKit

theorem Rd.lit (w : World) (l : List Nat) (fr : Nat × Nat) : Rd (w.alloc (.cells (bvals l).toArray 5 fr)) (w.heap.size + 1) (.slice (some ⟨w.heap.size, 0, none⟩) l.length l.length) (bvals l) := by
  refine ⟨_, l.length, by rw [bvals_length], ⟨(fun h => by cases h), by rw [bvals_length]; exact Nat.le_refl _⟩, fun _ => ⟨w.heap.size, 0, rfl, by omega, fun j u hu => ?_⟩⟩
  rw [Nat.zero_add]
  rw [World.cell?_alloc_mark]
  simpa using hu

theorem tailNum_closed (q : List Nat) : tailNum (closed q) = sumOf q := by
  unfold tailNum
  rw [closed_length, show q.length + 2 - 2 = q.length from by omega, show q.length + 2 - 1 = q.length + 1 from by omega]
  unfold closed
  simp [List.getD]
  have := sumOf_lt q
  omega

theorem closed_take (q : List Nat) : (closed q).take ((closed q).length - 2) = q := by
  rw [closed_length, show q.length + 2 - 2 = q.length from by omega]
  unfold closed
  simp

/-- What was closed is opened. -/
theorem open_closed (w : World) (B : Nat) (v : Value) (q : List Nat) (h : Rd w B v (bvals (closed q))) (hB : B ≤ w.heap.size) (hq : ∀ x ∈ q, x < 256) (hl : q.length ≤ 1000000) : Calls Try.prog 14 #[v] w (RetOpen q w) := by
  have := open_ok w B v (closed q) h hB (closed_small hq) (by rw [closed_length]; omega) (by rw [closed_length]; omega) (by rw [closed_take, tailNum_closed])
  rw [closed_take] at this
  exact this

set_option maxHeartbeats 1000000 in
theorem known_any (w : World) : Calls Try.prog 8 #[] w fun e w' => e = .returned (.bool true) ∧ Below w.heap.size w w' := by
  have kc := fun (w : World) (C : Array Value) (n c : Nat) => Lib.run_convert_bytes_const (P := Try.prog) w 22 5 C n c Try.underlying22 Try.underlying5
  have h1 := Rd.lit w [120] (1, 2)
  have hb1 : Below w.heap.size w (w.alloc (.cells (bvals [120]).toArray 5 (1, 2))) := (Below.refl _ _).alloc (Nat.le_refl _) _
  have H1 := Lib.hid h1; have HB1 := Lib.hid hb1
  clear h1 hb1
  go_enter Try.func8, Try.ntmps8
  go_wp2_with fail
  refine (close_any _ (w.heap.size + 1) _ [120] H1.out (by simp) (by decide) (by simp)).mono ?_
  rintro e w1 ⟨v1, rfl, ho1, hb1⟩
  have HO1 := Lib.hid (Rd.of_own ho1)
  have hB1 : Below w.heap.size w w1 := HB1.out.trans (hb1.mono (by simp))
  have HBB1 := Lib.hid hB1
  clear ho1 hb1 hB1
  go_wp2_with fail
  refine (open_closed w1 w1.heap.size v1 [120] HO1.out (Nat.le_refl _) (by decide) (by simp)).mono ?_
  rintro e w2 ⟨v2, rfl, ho2, hb2⟩
  have hB2 : Below w.heap.size w w2 := HBB1.out.trans (hb2.mono HBB1.out.size)
  have h3 := Rd.lit w2 [49, 50, 51, 52, 53, 54, 55, 56, 57] (9, 10)
  have H3 := Lib.hid h3; have HO2 := Lib.hid (Rd.of_own ho2); have HBB2 := Lib.hid hB2
  clear ho2 hb2 hB2 h3
  go_wp2_with fail
  refine (of_any _ _ _ [49, 50, 51, 52, 53, 54, 55, 56, 57] H3.out (by decide) (by simp)).mono ?_
  rintro e w' ⟨rfl, rfl⟩
  rw [show sumOf [49, 50, 51, 52, 53, 54, 55, 56, 57] = 46280 from by decide +kernel]
  have hA : Rd (w2.alloc (.cells (bvals [49, 50, 51, 52, 53, 54, 55, 56, 57]).toArray 5 (9, 10))) w2.heap.size v2 (bvals [120]) := HO2.out.mono (Nat.le_refl _) fun p hp => World.cell?_alloc_lt _ _ _ hp
  have hB : Below w.heap.size w (w2.alloc (.cells (bvals [49, 50, 51, 52, 53, 54, 55, 56, 57]).toArray 5 (9, 10))) := HBB2.out.alloc HBB2.out.size _
  have HA := Lib.hid hA; have HB := Lib.hid hB
  have HZ : Hid (w2.heap.size ≤ (w2.alloc (.cells (bvals [49, 50, 51, 52, 53, 54, 55, 56, 57]).toArray 5 (9, 10))).heap.size) := by show _ ≤ _; simp
  clear hA hB H3
  generalize w2.alloc (.cells (bvals [49, 50, 51, 52, 53, 54, 55, 56, 57]).toArray 5 (9, 10)) = w3 at *
  go_wp2_with fail
  have r1 := Rd.lit w3 [120] (1, 2)
  have r2 := HA.out.mono (w' := w3.alloc (.cells (bvals [120]).toArray 5 (1, 2))) (B' := w3.heap.size + 1) (by have := HZ.out; omega) fun p hp => World.cell?_alloc_lt _ _ _ (Nat.lt_of_lt_of_le hp HZ.out)
  refine (refBytes_true _ (w3.heap.size + 1) _ _ [120] r2 r1 (by simp)).mono ?_
  rintro e w' ⟨rfl, k, rfl⟩
  have HF := Lib.hid (below_drewN (HB.out.alloc HB.out.size (.cells (bvals [120]).toArray 5 (1, 2))) k)
  clear r1 r2
  go_wp2_with fail
  go_ret
  exact ⟨rfl, HF.out⟩

end Go.Proofs.Ytgefpeppjkggmaa
