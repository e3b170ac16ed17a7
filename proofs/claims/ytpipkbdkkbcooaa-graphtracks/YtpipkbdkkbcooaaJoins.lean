/- Contracts: joins: the document's example. -/
import Derived.Test.YtpipkbdkkbcooaaInts
namespace Go.Proofs.Ytpipkbdkkbcooaa
open Go.RowKit Fl
set_option maxRecDepth 100000

def LJ : Lay := ⟨[(0, 0), (1, 0), (2, 0)], [(1, 0, 1), (1, 1, 2)], [], [], [], 0, 0, 0, 0, 0⟩

theorem fitsJ : Fits LJ := ⟨by decide, by decide, by decide, fun x hx => by simp [LJ] at hx⟩
theorem near0 : nearL LJ 0 = [1] := by decide +kernel
theorem near1 : nearL LJ 1 = [0] := by decide +kernel
theorem len0 : lenL LJ.secs 0 = 1 := by decide +kernel

def NC : Array Value := #[.complex .f64 0 0, .complex .f64 4607182418800017408 0, .complex .f64 4611686018427387904 0]

theorem layJ (w : World) : LayV ((w.alloc (.cells #[.complex .f64 0 0, .complex .f64 4607182418800017408 0, .complex .f64 4611686018427387904 0] 64)).alloc (.cells #[.int .i64 1, .int .i64 0, .int .i64 1, .int .i64 1, .int .i64 1, .int .i64 2] 63)) ((w.alloc (.cells #[.complex .f64 0 0, .complex .f64 4607182418800017408 0, .complex .f64 4611686018427387904 0] 64)).alloc (.cells #[.int .i64 1, .int .i64 0, .int .i64 1, .int .i64 1, .int .i64 1, .int .i64 2] 63)).heap.size
    (.agg #[.slice (some ⟨w.heap.size, 0, none⟩) 3 3, .slice (some ⟨w.heap.size + 1, 0, none⟩) 2 2, .slice none 0 0, .slice none 0 0, .slice none 0 0, .int .i64 0, .int .i64 0, .int .i64 0, .int .i64 0, .int .i64 0]) LJ := by
  have o1 := (World.ownsRow_lit (base := 0) (e := 64) (size := 1) w #[.complex .f64 0 0, .complex .f64 4607182418800017408 0, .complex .f64 4611686018427387904 0] 3 (Nat.zero_le _) (by unfold maxLen; omega) rfl).alloc (.cells #[.int .i64 1, .int .i64 0, .int .i64 1, .int .i64 1, .int .i64 1, .int .i64 2] 63)
  have o2 := World.ownsRow_lit (base := 0) (e := 63) (size := 3) (w.alloc (.cells #[.complex .f64 0 0, .complex .f64 4607182418800017408 0, .complex .f64 4611686018427387904 0] 64)) #[.int .i64 1, .int .i64 0, .int .i64 1, .int .i64 1, .int .i64 1, .int .i64 2] 2 (Nat.zero_le _) (by unfold maxLen; omega) rfl
  rw [World.size_alloc] at o2
  have f1 : Fl 0 4607182418800017408 1 := by have := fl_ofInt 1 (by decide); rwa [show floatOfInt .f64 1 = 4607182418800017408 from by decide +kernel] at this
  refine ⟨_, _, _, _, _, [(0, 0), (4607182418800017408, 0), (4611686018427387904, 0)], rfl, ⟨Rd.of_own o1, ⟨rfl, fun i h1 h2 => ?_⟩, Secs.of_own (xs := LJ.secs) o2, ⟨[], Rd.empty _ _, rfl, fun i h => absurd h (by simp)⟩, ⟨none, 0, rfl, fun h => absurd h (by simp [LJ])⟩, ⟨[], Rd.empty _ _, rfl, fun i h => absurd h (by simp)⟩⟩⟩
  match i, h1, h2 with
  | 0, _, _ => exact ⟨fl_zero, fl_zero⟩
  | 1, _, _ => exact ⟨f1, fl_zero⟩
  | 2, _, _ => exact ⟨fl_two, fl_zero⟩

theorem Rd.one (w : World) (a : Int) : Rd (w.alloc (.cells #[.int .i64 a] 3)) (w.alloc (.cells #[.int .i64 a] 3)).heap.size (.slice (some ⟨w.heap.size, 0, none⟩) 1 1) (ivals [a]) := by
  have h := World.ownsRow_lit (base := 0) (e := 3) (size := 1) w #[.int .i64 a] 1 (Nat.zero_le _) (by unfold maxLen; omega) rfl
  exact Rd.of_own h

set_option maxHeartbeats 2000000 in
theorem joins_any (w : World) : Calls Try.prog 9 #[] w (RetL true w) := by
  have HLJ := Lib.hid (layJ w)
  have HB0 : Hid (Below w.heap.size w ((w.alloc (.cells #[.complex .f64 0 0, .complex .f64 4607182418800017408 0, .complex .f64 4611686018427387904 0] 64)).alloc (.cells #[.int .i64 1, .int .i64 0, .int .i64 1, .int .i64 1, .int .i64 1, .int .i64 2] 63))) := below2 w _ _
  go_enter Try.func9, Try.ntmps9
  go_wp2_with fail
  refine (new_any _ _ LJ HLJ.out fitsJ).mono ?_; rintro e w1 ⟨v1, rfl, hg1, hb1⟩
  obtain ⟨g, vS, vQ, vP, rfl, hg⟩ := id hg1
  have HG1 := Lib.hid hg1
  have HB1 := Lib.hid (HB0.out.trans (hb1.mono HB0.out.size))
  clear hg1 hb1 hg HLJ HB0
  go_wp2_with fail
  refine (near_any w1 w1.heap.size _ LJ 0 HG1.out (Nat.le_refl _) fitsJ).mono ?_; rintro e w2 ⟨v2, rfl, ho2, hb2⟩
  rw [near0] at ho2
  obtain ⟨A2, c2, hv2⟩ := own_slice ho2
  subst hv2
  have HG2 := Lib.hid (HG1.out.keep hb2 (Nat.le_refl _))
  have HB2 := Lib.hid (HB1.out.trans (hb2.mono HB1.out.size))
  have hb3 := (Below.refl w2.heap.size w2).alloc (Nat.le_refl _) (.cells #[.int .i64 1] 3)
  have HR2 := Lib.hid ((Rd.of_own ho2).up hb3)
  have HD2 : Hid (w1.heap.size ≤ w2.heap.size) := hb2.size
  clear ho2 hb2 HG1 HB1
  have HG3 := Lib.hid (HG2.out.keep hb3 HD2.out)
  have HB3 := Lib.hid (HB2.out.trans (hb3.mono HB2.out.size))
  have HO3 := Lib.hid (Rd.one w2 1)
  clear hb3
  go_wp2_with fail
  refine (ints_any (w2.alloc (.cells #[.int .i64 1] 3)) _ _ _ [1] [1] HR2.out HO3.out (by simp)).mono ?_; rintro e w4 ⟨rfl, nd, hw4⟩
  rw [decide_eq_true rfl]
  have HB4 : Hid (Below w.heap.size w w4) := by rw [hw4]; exact ⟨HB3.out.os, HB3.out.tape, HB3.out.output, HB3.out.size, HB3.out.block⟩
  have HG4 : Hid (IsGr w4 w1.heap.size (.pointer (some ⟨g, 0, none⟩)) LJ) := by rw [hw4]; exact HG3.out.keep (B := w1.heap.size) ⟨rfl, rfl, rfl, Nat.le_refl _, fun _ _ => rfl⟩ (Nat.le_refl _)
  have HD4 : Hid (w1.heap.size ≤ w4.heap.size) := by show _ ≤ _; rw [hw4]; have := HD2.out; show _ ≤ (w2.alloc (.cells #[.int .i64 1] 3)).heap.size; simp; omega
  clear hw4 HG3 HB3 HR2 HO3 HD2 HG2 HB2
  go_wp2_with fail
  refine (near_any w4 w1.heap.size _ LJ 1 HG4.out HD4.out fitsJ).mono ?_; rintro e w5 ⟨v5, rfl, ho5, hb5⟩
  rw [near1] at ho5
  obtain ⟨A5, c5, hv5⟩ := own_slice ho5
  subst hv5
  have HG5 := Lib.hid (HG4.out.keep hb5 HD4.out)
  have HB5 := Lib.hid (HB4.out.trans (hb5.mono HB4.out.size))
  have hb6 := (Below.refl w5.heap.size w5).alloc (Nat.le_refl _) (.cells #[.int .i64 0] 3)
  have HR5 := Lib.hid ((Rd.of_own ho5).up hb6)
  have HD5 : Hid (w1.heap.size ≤ w5.heap.size) := Nat.le_trans HD4.out hb5.size
  clear ho5 hb5 HG4 HB4
  have HG6 := Lib.hid (HG5.out.keep hb6 HD5.out)
  have HB6 := Lib.hid (HB5.out.trans (hb6.mono HB5.out.size))
  have HO6 := Lib.hid (Rd.one w5 0)
  clear hb6
  go_wp2_with fail
  refine (ints_any (w5.alloc (.cells #[.int .i64 0] 3)) _ _ _ [0] [0] HR5.out HO6.out (by simp)).mono ?_; rintro e w7 ⟨rfl, nd, hw7⟩
  rw [decide_eq_true rfl]
  have HB7 : Hid (Below w.heap.size w w7) := by rw [hw7]; exact ⟨HB6.out.os, HB6.out.tape, HB6.out.output, HB6.out.size, HB6.out.block⟩
  have HG7 : Hid (IsGr w7 w1.heap.size (.pointer (some ⟨g, 0, none⟩)) LJ) := by rw [hw7]; exact HG6.out.keep (B := w1.heap.size) ⟨rfl, rfl, rfl, Nat.le_refl _, fun _ _ => rfl⟩ (Nat.le_refl _)
  clear hw7 HG6 HB6 HR5 HO6 HD5 HG5 HB5
  go_wp2_with fail
  refine (len_any w7 w1.heap.size _ LJ 0 HG7.out fitsJ).mono ?_; rintro e w8 ⟨rfl, rfl⟩
  rw [len0]
  go_wp2_with fail
  go_ret
  exact ⟨rfl, HB7.out⟩

end Go.Proofs.Ytpipkbdkkbcooaa
