/- Contracts: numbers laid one behind the other. -/
import Derived.Test.YthpfhcelmddjlaaMemT
namespace Go.Proofs.Ythpfhcelmddjlaa
open Go.RowKit
set_option maxRecDepth 100000

theorem nbit_length (W : Nat) (n : Int) : (nbit W n).length = W := numBits_length _ _
theorem flat_length (W : Nat) (xs : List Int) : (xs.flatMap (nbit W)).length = xs.length * W := by
  induction xs with
  | nil => simp
  | cons a r ih => rw [List.flatMap_cons, List.length_append, ih, nbit_length, List.length_cons]; rw [Nat.add_mul]; omega
theorem flat_take (W : Nat) (xs : List Int) (i : Nat) (h : i < xs.length) : (xs.take (i + 1)).flatMap (nbit W) = (xs.take i).flatMap (nbit W) ++ nbit W xs[i] := by
  rw [List.take_succ_eq_append_getElem h, List.flatMap_append]; simp

theorem u_wrap (n : Int) : ((u n : Nat) : Int) = IntKind.u64.wrap n := by
  rw [u_cast]; simp [IntKind.wrap, IntKind.bits, IntKind.signed]

set_option maxHeartbeats 1000000 in
theorem put_ints (w : World) (B g : Nat) (l : List Bool) (W : Nat) (width : Int) (v : Value) (xs : List Int) (hW : Wr w B g l) (hB : B ≤ w.heap.size) (hv : Rt w 3 v (ivals xs)) (hw : width = (W : Int)) (hwd : W ≤ 64) (hl : l.length ≤ 500000) (hxl : xs.length ≤ 1000) :
    Calls Try.prog 22 #[.pointer (some ⟨g, 0, none⟩), .int .i64 width, v] w (Laid B g (l ++ xs.flatMap (nbit W)) w) := by
  subst hw
  have HV := Lib.hid hv
  obtain ⟨A, c, rfl, _⟩ := hv
  rw [ivals_length] at *
  obtain ⟨n, hn⟩ : ∃ n, n = xs.length := ⟨_, rfl⟩
  rw [← hn] at HV hxl ⊢
  have HN := Lib.hid hn; clear hn
  have HW := Lib.hid hW; clear hW
  go_enter Try.func22, Try.ntmps22
  go_wp2
  go_loopw [10] (fun k wr => ∃ i : Nat, i ≤ n ∧ k = .int .i64 i ∧ Hid (Wr wr B g (l ++ (xs.take i).flatMap (nbit W)) ∧ Kept B g w wr ∧ Still g w wr)) (fun k _ => n - (intOf k).toNat)
  case atStart => exact ⟨0, Nat.zero_le _, rfl, by simpa using HW.out, Kept.refl _ _ _, Still.refl _ _⟩
  case round =>
    obtain ⟨i, hi, rfl, HI⟩ := hrel
    by_cases hlt : i < n
    · have hiq : i < xs.length := by have := HN.out; omega
      obtain ⟨cs, hrow⟩ := HW.out.row
      obtain ⟨b, o, rfl, hcell⟩ := (HV.out.still HI.out.2.2 hrow (by decide) (by decide)).cell (ivals_get xs i hiq)
      have HT := Lib.hid (flat_take W xs i hiq)
      have hlen : (l ++ (xs.take i).flatMap (nbit W)).length ≤ 900000 := by
        rw [List.length_append, flat_length, List.length_take]
        have : min i xs.length * W ≤ 1000 * 64 := Nat.mul_le_mul (by omega) hwd
        omega
      have HL := Lib.hid hlen
      clear hlen hrow
      generalize xs[i] = x at *
      have HU := Lib.hid (u_wrap x)
      go_wp2_with fail
      rw [← HU.out]
      refine (put_still wr B g _ (u x) (W : Int) HI.out.1 (Nat.le_trans hB HI.out.2.1.size) HL.out).mono ?_
      rintro e w1 ⟨rfl, h1, h2, h3⟩
      rw [clamp_nat W hwd, List.append_assoc, show numBits (u x) W = nbit W x from rfl, ← HT.out] at h1
      have H2 : Hid (Wr w1 B g (l ++ (xs.take (i + 1)).flatMap (nbit W)) ∧ Kept B g w w1 ∧ Still g w w1) := ⟨h1, HI.out.2.1.trans h2, HI.out.2.2.trans h3⟩
      clear h1 h2 h3 hcell
      go_wp2_with fail
      go_roundw
      case rel => exact ⟨i + 1, by omega, by go_num, H2⟩
      case measure => simp [intOf]; omega
    · have hf : xs.take i = xs := List.take_of_length_le (by have := HN.out; omega)
      have HF := Lib.hid hf; clear hf
      go_wp2
      go_end0
      refine ⟨rfl, ?_, HI.out.2⟩
      have := HI.out.1
      rw [HF.out] at this
      exact this

set_option maxHeartbeats 1000000 in
theorem put_longs (w : World) (B g : Nat) (l : List Bool) (W : Nat) (width : Int) (v : Value) (xs : List Int) (hW : Wr w B g l) (hB : B ≤ w.heap.size) (hv : Rt w 2 v (ivals xs)) (hw : width = (W : Int)) (hwd : W ≤ 64) (hl : l.length ≤ 500000) (hxl : xs.length ≤ 1000) :
    Calls Try.prog 30 #[.pointer (some ⟨g, 0, none⟩), .int .i64 width, v] w (Laid B g (l ++ xs.flatMap (nbit W)) w) := by
  subst hw
  have HV := Lib.hid hv
  obtain ⟨A, c, rfl, _⟩ := hv
  rw [ivals_length] at *
  obtain ⟨n, hn⟩ : ∃ n, n = xs.length := ⟨_, rfl⟩
  rw [← hn] at HV hxl ⊢
  have HN := Lib.hid hn; clear hn
  have HW := Lib.hid hW; clear hW
  go_enter Try.func30, Try.ntmps30
  go_wp2
  go_loopw [10] (fun k wr => ∃ i : Nat, i ≤ n ∧ k = .int .i64 i ∧ Hid (Wr wr B g (l ++ (xs.take i).flatMap (nbit W)) ∧ Kept B g w wr ∧ Still g w wr)) (fun k _ => n - (intOf k).toNat)
  case atStart => exact ⟨0, Nat.zero_le _, rfl, by simpa using HW.out, Kept.refl _ _ _, Still.refl _ _⟩
  case round =>
    obtain ⟨i, hi, rfl, HI⟩ := hrel
    by_cases hlt : i < n
    · have hiq : i < xs.length := by have := HN.out; omega
      obtain ⟨cs, hrow⟩ := HW.out.row
      obtain ⟨b, o, rfl, hcell⟩ := (HV.out.still HI.out.2.2 hrow (by decide) (by decide)).cell (ivals_get xs i hiq)
      have HT := Lib.hid (flat_take W xs i hiq)
      have hlen : (l ++ (xs.take i).flatMap (nbit W)).length ≤ 900000 := by
        rw [List.length_append, flat_length, List.length_take]
        have : min i xs.length * W ≤ 1000 * 64 := Nat.mul_le_mul (by omega) hwd
        omega
      have HL := Lib.hid hlen
      clear hlen hrow
      generalize xs[i] = x at *
      have HU := Lib.hid (u_wrap x)
      go_wp2_with fail
      rw [← HU.out]
      refine (put_still wr B g _ (u x) (W : Int) HI.out.1 (Nat.le_trans hB HI.out.2.1.size) HL.out).mono ?_
      rintro e w1 ⟨rfl, h1, h2, h3⟩
      rw [clamp_nat W hwd, List.append_assoc, show numBits (u x) W = nbit W x from rfl, ← HT.out] at h1
      have H2 : Hid (Wr w1 B g (l ++ (xs.take (i + 1)).flatMap (nbit W)) ∧ Kept B g w w1 ∧ Still g w w1) := ⟨h1, HI.out.2.1.trans h2, HI.out.2.2.trans h3⟩
      clear h1 h2 h3 hcell
      go_wp2_with fail
      go_roundw
      case rel => exact ⟨i + 1, by omega, by go_num, H2⟩
      case measure => simp [intOf]; omega
    · have hf : xs.take i = xs := List.take_of_length_le (by have := HN.out; omega)
      have HF := Lib.hid hf; clear hf
      go_wp2
      go_end0
      refine ⟨rfl, ?_, HI.out.2⟩
      have := HI.out.1
      rw [HF.out] at this
      exact this

theorem Wr.alloc {w : World} {B g : Nat} {l : List Bool} (h : Wr w B g l) (o : Obj) : Wr (w.alloc o) B g l := by
  obtain ⟨v, hr, ho⟩ := h
  exact ⟨v, hr.alloc o, ho.alloc o⟩

theorem Still.of_below {g : Nat} {w w' : World} (h : Below w.heap.size w w') : Still g w w' := fun k t cs fr _ _ hk => by
  have hlt : k < w.heap.size := by
    rcases Nat.lt_or_ge k w.heap.size with c | c
    · exact c
    · rw [Array.getElem?_eq_none c] at hk; cases hk
  rw [h.block k hlt]; exact hk

theorem Wr.fresh {w w' : World} {B g : Nat} {l : List Bool} (h : Wr w B g l) (hb : Below w.heap.size w w') : Wr w' B g l := Below.wr hb h (Nat.le_refl _)

/-- Behind new memory. -/
theorem Laid.pre {B g : Nat} {l : List Bool} {w w1 w' : World} {e : Ending} (h : Laid B g l w1 e w') (hb : Below w.heap.size w w1) (hB : B ≤ w.heap.size) : Laid B g l w e w' :=
  ⟨h.1, h.2.1, (Kept.of_below (hb.mono hB)).trans h.2.2.1, (Still.of_below hb).trans h.2.2.2⟩

theorem Laid.seq {B g : Nat} {l l' : List Bool} {w w1 w' : World} {e e1 : Ending} (h1 : Laid B g l w e1 w1) (h : Laid B g l' w1 e w') : Laid B g l' w e w' :=
  ⟨h.1, h.2.1, h1.2.2.1.trans h.2.2.1, h1.2.2.2.trans h.2.2.2⟩

theorem Still.row {g k : Nat} {w w' : World} (h : Still g w w') {t t' : TypeId} {cs cs' : Array Value} (hr : Row w k t cs) (h5 : t ≠ 5) (hg : Row w g t' cs') (ht : t ≠ t') : Row w' k t cs := h k t cs (0, 0) h5 (Row.ne hr hg ht) hr

theorem Kept.cellD {B g D : Nat} {w w' : World} (h : Kept B g w w') (hD : D ≤ B) (hg : D ≤ g) : ∀ p : Addr, p.block < D → w'.cell? p = w.cell? p := fun p hp =>
  World.cell?_of_block (h.block p.block (by omega) (by omega))

set_option maxHeartbeats 1000000 in
theorem one_int (w : World) (B g bw : Nat) (l : List Bool) (n : Int) (hW : Wr w B g l) (hB : B ≤ w.heap.size) (hbw : Row w bw 57 #[.pointer (some ⟨g, 0, none⟩)]) (hl : l.length ≤ 500000) :
    Calls Try.prog 54 #[.int .i64 n, .pointer (some ⟨bw, 0, none⟩)] w (Laid B g (l ++ eint n) w) := by
  have h0 := hbw.cell 0
  simp only [List.getElem?_toArray, List.getElem?_cons_zero] at h0
  have HW := Lib.hid (hW.alloc (.cells #[.int .i64 n] 3))
  have HR := Lib.hid (Rt.lit w 3 (ivals [n]) 1 rfl)
  have HB := Lib.hid ((Below.refl w.heap.size w).alloc (Nat.le_refl _) (.cells #[.int .i64 n] 3))
  clear hW hbw
  go_enter Try.func54, Try.ntmps54
  go_wp2_with fail
  refine (put_ints _ B g l 8 8 _ [n] HW.out (Nat.le_trans hB HB.out.size) HR.out rfl (by omega) hl (by simp)).mono ?_
  rintro e w1 h
  have H := Lib.hid (h.pre HB.out hB)
  obtain ⟨rfl, -⟩ := h
  go_wp2_with fail
  go_end0
  have := H.out
  simpa [eint, Laid] using this

set_option maxHeartbeats 1000000 in
theorem putList_int (w : World) (B D g bw : Nat) (l : List Bool) (v : Value) (xs : List Int) (hW : Wr w B g l) (hB : B ≤ w.heap.size) (hbw : Row w bw 57 #[.pointer (some ⟨g, 0, none⟩)]) (hv : Rd w D v (ivals xs)) (hD : D ≤ B) (hg : D ≤ g) (hl : l.length ≤ 400000) (hxl : xs.length ≤ 1000) :
    Calls Try.prog 53 #[.pointer (some ⟨g, 0, none⟩), v, .func (.func 54) #[] #[.pointer (some ⟨bw, 0, none⟩)]] w (Laid B g (l ++ erow xs) w) := by
  obtain ⟨A, c, rfl, -, hx⟩ := hv
  rw [ivals_length] at *
  obtain ⟨n, hn⟩ : ∃ n, n = xs.length := ⟨_, rfl⟩
  rw [← hn] at hx hxl ⊢
  have HN := Lib.hid hn; have HX := Lib.hid hx; clear hn hx
  have HW := Lib.hid (hW.alloc (.cells #[.int .i64 (n : Int)] 3))
  have HR := Lib.hid (Rt.lit w 3 (ivals [(n : Int)]) 1 rfl)
  have HB := Lib.hid ((Below.refl w.heap.size w).alloc (Nat.le_refl _) (.cells #[.int .i64 (n : Int)] 3))
  have HBW := Lib.hid hbw
  have HW0 := Lib.hid hW
  clear hW hbw
  go_enter Try.func53, Try.ntmps53
  go_wp2_with fail
  refine (put_ints _ B g l 8 8 _ [(n : Int)] HW.out (Nat.le_trans hB HB.out.size) HR.out rfl (by omega) (by omega) (by simp)).mono ?_
  rintro e w1 h
  have H1 := Lib.hid (h.pre HB.out hB)
  obtain ⟨rfl, -⟩ := h
  go_wp2_with fail
  go_loopw [15] (fun k wr => ∃ i : Nat, i ≤ n ∧ k = .int .i64 i ∧ Hid (Laid B g (l ++ (nbit 8 (n : Int) ++ (xs.take i).flatMap eint)) w (.returned (.tuple #[])) wr)) (fun k _ => n - (intOf k).toNat)
  case atStart => exact ⟨0, Nat.zero_le _, rfl, Lib.hid (by have := H1.out; simpa [Laid] using this)⟩
  case round =>
    obtain ⟨i, hi, rfl, HI⟩ := hrel
    by_cases hlt : i < n
    · have hiq : i < xs.length := by have := HN.out; omega
      obtain ⟨b, o, rfl, hbD, hc⟩ := HX.out (by omega)
      have hcell : wr.cell? ⟨b, o + i, none⟩ = some (.int .i64 xs[i]) := (HI.out.2.2.1.cellD hD hg ⟨b, o + i, none⟩ hbD).trans (hc i _ (ivals_get xs i hiq))
      have HT : Hid ((xs.take (i + 1)).flatMap eint = (xs.take i).flatMap eint ++ eint xs[i]) := by
        show _ = _
        rw [List.take_succ_eq_append_getElem hiq, List.flatMap_append]; simp
      have hlen : (l ++ (nbit 8 (n : Int) ++ (xs.take i).flatMap eint)).length ≤ 500000 := by
        rw [List.length_append, List.length_append, nbit_length]
        have := flat_length 8 (xs.take i)
        rw [show (xs.take i).flatMap eint = (xs.take i).flatMap (nbit 8) from rfl, this, List.length_take]
        have : min i xs.length ≤ 1000 := by omega
        omega
      have HL := Lib.hid hlen
      obtain ⟨cs, hrow⟩ := HW0.out.row
      have HBW1 := Lib.hid (HI.out.2.2.2.row HBW.out (by decide) hrow (by decide))
      clear hlen hc hrow
      generalize xs[i] = x at *
      go_wp2_with fail
      refine (one_int wr B g bw _ x HI.out.2.1 (Nat.le_trans hB HI.out.2.2.1.size) HBW1.out HL.out).mono ?_
      rintro e w2 h
      have H2 := Lib.hid (HI.out.seq h)
      obtain ⟨rfl, -⟩ := h
      rw [List.append_assoc, List.append_assoc, ← HT.out] at H2
      go_wp2_with fail
      go_roundw
      case rel => exact ⟨i + 1, by omega, by go_num, H2⟩
      case measure => simp [intOf]; omega
    · have hf : xs.take i = xs := List.take_of_length_le (by have := HN.out; omega)
      have HF := Lib.hid hf; clear hf
      go_wp2
      go_end0
      have := HI.out
      rw [HF.out] at this
      have hn := HN.out
      subst hn
      exact this

end Go.Proofs.Ythpfhcelmddjlaa
