/- The example that every law of the layer asks first. -/
import Derived.Test.YtnnfkehpoeehbaaReader
namespace Go.Proofs.Ytnnfkehpoeehbaa
open Go.RowKit

theorem Wr.new (w : World) (B : Nat) : Wr (w.alloc (.cells #[.slice none 0 0, .int .i64 0] 52)) B w.heap.size [] :=
  ⟨.slice none 0 0, Row.new w 52 _, World.ownsRow_nil _ _ _ _⟩

theorem Rd.lit (w : World) (x : Nat) : Rd (w.alloc (.cells #[.int .u8 (x : Int)] 5)) (w.alloc (.cells #[.int .u8 (x : Int)] 5)).heap.size (.slice (some ⟨w.heap.size, 0, none⟩) 1 1) (bvals [x]) :=
  Rd.of_own (base := 0) (e := 5) (n := 1) (World.ownsRow_lit w #[.int .u8 (x : Int)] 1 (Nat.zero_le _) (by unfold maxLen; omega) (by simp))

set_option maxHeartbeats 1000000 in
theorem five_any (w : World) : Calls Try.prog 9 #[] w fun e w' => e = .returned (.bool true) ∧ Below w.heap.size w w' := by
  have hw := Wr.new w w.heap.size
  have hk : Kept w.heap.size w.heap.size w (w.alloc (.cells #[.slice none 0 0, .int .i64 0] 52)) := (Kept.refl _ _ _).alloc (Nat.le_refl _) _
  have HW := Lib.hid hw; have HK := Lib.hid hk
  clear hw hk
  go_enter Try.func9, Try.ntmps9
  go_wp2_with fail
  refine (put_some _ w.heap.size w.heap.size [] 5 3 HW.out (by simp) (by simp)).mono ?_
  rintro e w1 ⟨rfl, hw1, hk1⟩
  rw [show ([] ++ numBits 5 (min (max (3 : Int) 0) 64).toNat) = [true, false, true] from by decide] at hw1
  have HW1 := Lib.hid hw1; have HK1 := Lib.hid (HK.out.trans hk1)
  clear hw1 hk1
  go_wp2_with fail
  refine (flag_some _ w.heap.size w.heap.size _ true HW1.out HK1.out.size (by simp)).mono ?_
  rintro e w2 ⟨rfl, hw2, hk2⟩
  have HW2 := Lib.hid hw2; have HK2 := Lib.hid (HK1.out.trans hk2)
  clear hw2 hk2 HW1
  go_wp2_with fail
  refine (bytes_some w2 w.heap.size w.heap.size _ HW2.out (by simp)).mono ?_
  rintro e w3 ⟨v, rfl, ho3, hb3⟩
  have hB3 : Below w.heap.size w w3 := (HK2.out.below (Nat.le_refl _)).trans (hb3.mono HK2.out.size)
  have hp : pack ([true, false, true] ++ [true]) = [176] := by decide
  rw [hp] at ho3
  have HO3 := Lib.hid ho3; have HB3 := Lib.hid hB3
  clear ho3 hB3 hb3 hp HW2 HK HK1 HK2 HW
  go_wp2_with fail
  have r1 : Rd (w3.alloc (.cells #[.int .u8 176] 5)) (w3.alloc (.cells #[.int .u8 176] 5)).heap.size v (bvals [176]) := Rd.of_own (HO3.out.alloc _)
  refine (refBytes_true _ _ v _ [176] r1 (Rd.lit w3 176) (by simp)).mono ?_
  clear r1
  rintro e w' ⟨rfl, n, rfl⟩
  have r2 := Rd.lit ((w3.alloc (.cells #[.int .u8 176] 5)).drewN n) 176
  rw [show ((w3.alloc (.cells #[.int .u8 176] 5)).drewN n).heap.size = w3.heap.size + 1 from by simp] at r2
  have R2 := Lib.hid r2; clear r2
  go_wp2_with fail
  refine (newReader_any _ _ [176] R2.out (by simp)).mono ?_
  rintro e w5 ⟨g, rfl, hg, hr5, hb5⟩
  have hB5 : Below w.heap.size w w5 := by
    have a := ((HB3.out.alloc HB3.out.size (.cells #[.int .u8 176] 5)))
    have b := (below_drewN a n).alloc (o := .cells #[.int .u8 176] 5) (by have := HB3.out.size; simp; omega)
    exact b.trans (hb5.mono (by have := HB3.out.size; simp; omega))
  have HR5 := Lib.hid hr5; have HB5 := Lib.hid hB5
  have HG := Lib.hid hg
  clear hr5 hb5 hB5 hg
  go_wp2_with fail
  refine (get_long w5 _ g [176] 0 false 3 HR5.out (by simp) (by simp) (by simp) (by decide)).mono ?_
  rintro e w6 ⟨rfl, _, hk6⟩
  have hB6 : Below w.heap.size w w6 := HB5.out.trans ((hk6 w.heap.size).below (by have := HB3.out.size; have := HG.out; simp at this; omega))
  have HB6 := Lib.hid hB6
  have hn : numTo [176] 0 (min (max (3 : Int) 0) 64).toNat = 5 := by decide
  clear hk6 hB6
  rw [hn]
  clear hn
  go_wp2_with fail
  go_ret
  exact ⟨rfl, HB6.out⟩

end Go.Proofs.Ytnnfkehpoeehbaa
