/- The document's example. -/
import Derived.Test.YtgophlafmobhfaaD5
namespace Go.Proofs.Ytgophlafmobhfaa
open Go.RowKit
set_option maxRecDepth 100000

theorem Row.rd {w : World} {g n : Nat} {t : TypeId} {xs : List Value} (h : Row w g t xs.toArray) (hn : n = xs.length) : Rd w w.heap.size (.slice (some ⟨g, 0, none⟩) n n) xs := by
  subst hn
  refine ⟨_, _, rfl, ⟨fun e => by (cases e), Nat.le_refl _⟩, fun _ => ⟨g, 0, rfl, h.lt, fun j u hu => ?_⟩⟩
  rw [Nat.zero_add, h.cell j]
  simpa using hu

/-- A filter of one part in a walk that began at 'w0', and a byte that it is told. -/
structure FS (w0 W : World) (B0 g h n : Nat) (c : Nat → Int) (s : Int) : Prop where
  size : B0 ≤ W.heap.size
  below : Below B0 w0 W
  fi : Fi W B0 g h n c s

theorem FS.call {w0 W W' : World} {B0 g h n : Nat} {c : Nat → Int} {s : Int} (f : FS w0 W B0 g h n c s) (hb : Below W.heap.size W W') : FS w0 W' B0 g h n c s :=
  ⟨Nat.le_trans f.size hb.size, f.below.trans (hb.mono f.size), f.fi.below hb⟩
theorem FS.drew {w0 W : World} {B0 g h n : Nat} {c : Nat → Int} {s : Int} (f : FS w0 W B0 g h n c s) (m : Nat) : FS w0 (W.drewN m) B0 g h n c s := f.call (Below.drewN (Below.refl _ _) m)
theorem FS.alloc {w0 W : World} {B0 g h n : Nat} {c : Nat → Int} {s : Int} (f : FS w0 W B0 g h n c s) (o : Obj) : FS w0 (W.alloc o) B0 g h n c s := f.call ((Below.refl _ _).alloc (Nat.le_refl _) _)

theorem fs_new (w0 W : World) (B0 : Nat) (p s : Int) (h1 : B0 ≤ W.heap.size) (h2 : Below B0 w0 W) : Calls Try.prog 9 #[.int .i64 p, .int .i64 s] W fun e w' => ∃ g h, e = .returned (.pointer (some ⟨g, 0, none⟩)) ∧ FS w0 w' B0 g h (partsN p) (fun _ => 0) (stayS s) ∧ W.heap.size ≤ h ∧ Below W.heap.size W w' := by
  refine (new_any W p s).mono ?_
  rintro e w' ⟨g, h, rfl, hf, hb⟩
  exact ⟨g, h, rfl, ⟨Nat.le_trans h1 hb.size, h2.trans (hb.mono h1), ⟨⟨Nat.le_trans h1 hf.lo.1, Nat.le_trans h1 hf.lo.2⟩, hf.row, hf.cnt, hf.n16, hf.stay, hf.ok⟩⟩, hf.lo.2, hb⟩

theorem fs_step (w0 W : World) (B0 g h n : Nat) (c : Nat → Int) (s : Int) (raw : List Nat) (v : Value) (f : FS w0 W B0 g h n c s) (r : Ra W h v raw) :
    Calls Try.prog 10 #[.pointer (some ⟨g, 0, none⟩), v] W fun e w' => ∃ k, e = .returned (.slice (some ⟨k, 0, none⟩) n n) ∧ W.heap.size ≤ k ∧ FS w0 w' B0 g h n (stepC c raw) s ∧ Row w' k 4 (gvals n (toldC (stepC c raw) s)).toArray ∧ KeptL [h] W w' := by
  refine (step_any W B0 g h n c s raw v f.fi r).mono ?_
  rintro e w' ⟨rfl, hf, hr, hk⟩
  exact ⟨_, rfl, Nat.le_refl _, ⟨Nat.le_trans f.size hk.size, f.below.trans (hk.below f.size (fun k hm => by simp at hm; subst hm; exact f.fi.lo.2)), hf⟩, hr, hk⟩

theorem told_row {w : World} {k : Nat} {t : Nat → Bool} {b : Bool} (h : Row w k 4 (gvals 1 t).toArray) (e : t 0 = b) : Row w k 4 (cvals [b]).toArray := by
  have e2 : gvals 1 t = cvals [b] := by simp [gvals, cvals, List.range_succ, e]
  rw [e2] at h; exact h

/-- What stands for one byte. -/
theorem lit_ra {w0 W : World} {B0 g h n : Nat} {c : Nat → Int} {s : Int} (f : FS w0 W B0 g h n c s) (b : Nat) : Ra (W.alloc (.cells #[.int .u8 (b : Int)] 5)) h (.slice (some ⟨W.heap.size, 0, none⟩) 1 1) [b] :=
  Ra.one b (Row.new _ _ _) (f.alloc _).fi.cnt rfl

set_option maxHeartbeats 4000000 in
theorem stays_any (W : World) : Calls Try.prog 8 #[] W fun e w' => e = .returned (.bool true) ∧ Below W.heap.size W w' := by
  obtain ⟨RP, hRP⟩ : ∃ R : Ending → World → Prop, R = fun e w' => e = .returned (.bool true) ∧ Below W.heap.size W w' := ⟨_, rfl⟩
  rw [← hRP]
  have HRP := Lib.hid hRP
  clear hRP
  have HB := Lib.hid (Below.refl W.heap.size W)
  go_enter Try.func8, Try.ntmps8
  go_wp2_with fail
  refine (fs_new W W W.heap.size 1 1 (Nat.le_refl _) HB.out).mono ?_; rintro e w1 ⟨g, h, rfl, hf, _, _⟩
  have ep : partsN 1 = 1 := rfl
  have es : stayS 1 = 1 := rfl
  rw [ep, es] at hf
  have HF := Lib.hid hf
  have HL := Lib.hid (lit_ra hf 0)
  have HF1 := Lib.hid (hf.alloc (.cells #[.int .u8 ((0 : Nat) : Int)] 5))
  clear hf ep es
  go_wp2_with fail
  refine (fs_step W _ _ g h 1 _ 1 [0] _ HF1.out HL.out).mono ?_; rintro e w2 ⟨k2, rfl, _, hf, hr, _⟩
  have hr2 := told_row (b := false) hr (by decide)
  have HR2 := Lib.hid hr2
  have HL2 := Lib.hid (lit_ra hf 0)
  have HF2 := Lib.hid (hf.alloc (.cells #[.int .u8 ((0 : Nat) : Int)] 5))
  have HR2a := Lib.hid (hr2.alloc (.cells #[.int .u8 ((0 : Nat) : Int)] 5))
  clear hf hr hr2 HL HF1 HF
  go_wp2_with fail
  refine (fs_step W _ _ g h 1 _ 1 [0] _ HF2.out HL2.out).mono ?_; rintro e w3 ⟨k3, rfl, _, hf, hr, hk⟩
  have hr3 := told_row (b := true) hr (by decide)
  have hr23 := hk.row HR2a.out (by simpa using HR2a.out.ne HF2.out.fi.cnt (by decide))
  have HL3 := Lib.hid (lit_ra hf 2)
  have HF3 := Lib.hid (hf.alloc (.cells #[.int .u8 ((2 : Nat) : Int)] 5))
  have HR3a := Lib.hid (hr3.alloc (.cells #[.int .u8 ((2 : Nat) : Int)] 5))
  have HR2b := Lib.hid (hr23.alloc (.cells #[.int .u8 ((2 : Nat) : Int)] 5))
  clear hf hr hr3 hr23 HL2 HF2 HR2 HR2a hk
  go_wp2_with fail
  refine (fs_step W _ _ g h 1 _ 1 [2] _ HF3.out HL3.out).mono ?_; rintro e w4 ⟨k4, rfl, _, hf, hr, hk⟩
  have hr4 := told_row (b := false) hr (by decide)
  have hr24 := hk.row HR2b.out (by simpa using HR2b.out.ne HF3.out.fi.cnt (by decide))
  have hr34 := hk.row HR3a.out (by simpa using HR3a.out.ne HF3.out.fi.cnt (by decide))
  have HB4 := Lib.hid hf.below
  have HS4 := Lib.hid hf.size
  have HA4 := Lib.hid hr4
  have HA3 := Lib.hid hr34
  have HA2 := Lib.hid hr24
  clear hf hr hr4 hr24 hr34 hk HL3 HF3 HR3a HR2b
  have HLA : Hid (Rd (w4.alloc (.cells #[.bool false] 4)) (w4.alloc (.cells #[.bool false] 4)).heap.size (.slice (some ⟨k2, 0, none⟩) 1 1) (cvals [false])) := (HA2.out.alloc _).rd rfl
  have HLB : Hid (Rd (w4.alloc (.cells #[.bool false] 4)) (w4.alloc (.cells #[.bool false] 4)).heap.size (.slice (some ⟨w4.heap.size, 0, none⟩) 1 1) (cvals [false])) := (Row.new w4 4 (cvals [false]).toArray).rd rfl
  go_wp2_with fail
  refine (bools_any _ _ _ _ [false] [false] HLA.out HLB.out (by decide)).mono ?_; rintro e w' ⟨rfl, m, rfl⟩
  rw [show decide ([false] = [false]) = true by decide]
  have hbl : Below w4.heap.size w4 ((w4.alloc (.cells #[.bool false] 4)).drewN m) := Below.drewN ((Below.refl _ _).alloc (Nat.le_refl _) _) m
  have HA3n := Lib.hid (Below.row hbl HA3.out HA3.out.lt)
  have HA4n := Lib.hid (Below.row hbl HA4.out HA4.out.lt)
  have HB4n := Lib.hid (HB4.out.trans (hbl.mono HS4.out))
  have HS4n := Lib.hid (Nat.le_trans HS4.out hbl.size)
  generalize (w4.alloc (.cells #[.bool false] 4)).drewN m = W3 at *
  clear hbl HLA HLB HB4 HS4 HA2 HA3 HA4
  have HB4 := HB4n
  have HS4 := HS4n
  clear HB4n HS4n
  have HA3 := HA3n
  clear HA3n
  have HA4 := HA4n
  clear HA4n
  have HLA : Hid (Rd (W3.alloc (.cells #[.bool true] 4)) (W3.alloc (.cells #[.bool true] 4)).heap.size (.slice (some ⟨k3, 0, none⟩) 1 1) (cvals [true])) := (HA3.out.alloc _).rd rfl
  have HLB : Hid (Rd (W3.alloc (.cells #[.bool true] 4)) (W3.alloc (.cells #[.bool true] 4)).heap.size (.slice (some ⟨W3.heap.size, 0, none⟩) 1 1) (cvals [true])) := (Row.new W3 4 (cvals [true]).toArray).rd rfl
  go_wp2_with fail
  refine (bools_any _ _ _ _ [true] [true] HLA.out HLB.out (by decide)).mono ?_; rintro e w' ⟨rfl, m, rfl⟩
  rw [show decide ([true] = [true]) = true by decide]
  have hbl : Below W3.heap.size W3 ((W3.alloc (.cells #[.bool true] 4)).drewN m) := Below.drewN ((Below.refl _ _).alloc (Nat.le_refl _) _) m
  have HA4n := Lib.hid (Below.row hbl HA4.out HA4.out.lt)
  have HB4n := Lib.hid (HB4.out.trans (hbl.mono HS4.out))
  have HS4n := Lib.hid (Nat.le_trans HS4.out hbl.size)
  generalize (W3.alloc (.cells #[.bool true] 4)).drewN m = W4 at *
  clear hbl HLA HLB HB4 HS4 HA3 HA4
  have HB4 := HB4n
  have HS4 := HS4n
  clear HB4n HS4n
  have HA4 := HA4n
  clear HA4n
  have HLA : Hid (Rd (W4.alloc (.cells #[.bool false] 4)) (W4.alloc (.cells #[.bool false] 4)).heap.size (.slice (some ⟨k4, 0, none⟩) 1 1) (cvals [false])) := (HA4.out.alloc _).rd rfl
  have HLB : Hid (Rd (W4.alloc (.cells #[.bool false] 4)) (W4.alloc (.cells #[.bool false] 4)).heap.size (.slice (some ⟨W4.heap.size, 0, none⟩) 1 1) (cvals [false])) := (Row.new W4 4 (cvals [false]).toArray).rd rfl
  go_wp2_with fail
  refine (bools_any _ _ _ _ [false] [false] HLA.out HLB.out (by decide)).mono ?_; rintro e w' ⟨rfl, m, rfl⟩
  rw [show decide ([false] = [false]) = true by decide]
  have hbl : Below W4.heap.size W4 ((W4.alloc (.cells #[.bool false] 4)).drewN m) := Below.drewN ((Below.refl _ _).alloc (Nat.le_refl _) _) m
  have HB4n := Lib.hid (HB4.out.trans (hbl.mono HS4.out))
  have HS4n := Lib.hid (Nat.le_trans HS4.out hbl.size)
  generalize (W4.alloc (.cells #[.bool false] 4)).drewN m = W5 at *
  clear hbl HLA HLB HB4 HS4 HA4
  have HB4 := HB4n
  have HS4 := HS4n
  clear HB4n HS4n
  go_wp2_with fail
  rw [HRP.out]
  exact ⟨rfl, HB4.out⟩

end Go.Proofs.Ytgophlafmobhfaa
