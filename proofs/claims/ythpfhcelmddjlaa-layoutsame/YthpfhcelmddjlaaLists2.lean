/- Contracts: sections and points laid, one and all. -/
import Derived.Test.YthpfhcelmddjlaaLists
namespace Go.Proofs.Ythpfhcelmddjlaa
open Go.RowKit Fl
set_option maxRecDepth 100000

theorem Rt.lit2 (w : World) (o : Obj) (t : TypeId) (xs : List Value) (n : Nat) (hn : xs.length = n) : Rt ((w.alloc o).alloc (.cells xs.toArray t)) t (.slice (some ⟨w.heap.size + 1, 0, none⟩) n n) xs := by
  have := Rt.lit (w.alloc o) t xs n hn
  rw [World.size_alloc] at this
  exact this

theorem below2 (w : World) (o1 o2 : Obj) : Below w.heap.size w ((w.alloc o1).alloc o2) := ((Below.refl _ _).alloc (Nat.le_refl _) o1).alloc (by simp) o2

set_option maxHeartbeats 2000000 in
theorem one_sec (w : World) (B g bw : Nat) (l : List Bool) (s : Int × Int × Int) (hW : Wr w B g l) (hB : B ≤ w.heap.size) (hbw : Row w bw 57 #[.pointer (some ⟨g, 0, none⟩)]) (hl : l.length ≤ 490000) :
    Calls Try.prog 26 #[.agg #[.int .i64 s.1, .int .i64 s.2.1, .int .i64 s.2.2], .pointer (some ⟨bw, 0, none⟩)] w (Laid B g (l ++ esec s) w) := by
  obtain ⟨a, b, c⟩ := s
  simp only
  have h0 := hbw.cell 0
  simp only [List.getElem?_toArray, List.getElem?_cons_zero] at h0
  have hlt := hbw.lt
  have hB2 := below2 w (.cells #[.int .i64 a, .int .i64 b, .int .i64 c] 50) (.cells #[.int .i64 a] 3)
  have HW := Lib.hid (hW.fresh hB2)
  have HR := Lib.hid (Rt.lit2 w (.cells #[.int .i64 a, .int .i64 b, .int .i64 c] 50) 3 (ivals [a]) 1 rfl)
  have HX := Lib.hid ((Row.new w 50 #[.int .i64 a, .int .i64 b, .int .i64 c]).alloc (.cells #[.int .i64 a] 3))
  have HY := Lib.hid ((hbw.alloc (.cells #[.int .i64 a, .int .i64 b, .int .i64 c] 50)).alloc (.cells #[.int .i64 a] 3))
  have HB := Lib.hid hB2
  clear hW hbw hB2
  go_enter Try.func26, Try.ntmps26
  go_wp2_with fail
  refine (put_ints _ B g l 16 16 _ [a] HW.out (Nat.le_trans hB HB.out.size) HR.out rfl (by omega) (by omega) (by simp)).mono ?_
  rintro e w1 h
  obtain ⟨cs, hrow⟩ := HW.out.row
  have hx1 := h.2.2.2.row HX.out (by decide) hrow (by decide)
  have hy1 := h.2.2.2.row HY.out (by decide) hrow (by decide)
  have k0 := hx1.cell 0; have k1 := hx1.cell 1; have k2 := hx1.cell 2; have k3 := hy1.cell 0
  simp only [List.getElem?_toArray, List.getElem?_cons_zero, List.getElem?_cons_succ] at k0 k1 k2 k3
  have H1 := Lib.hid (h.pre HB.out hB)
  obtain ⟨rfl, -⟩ := h
  have hB3 := (Below.refl w1.heap.size w1).alloc (Nat.le_refl _) (.cells #[.int .i64 b, .int .i64 c] 3)
  have HW1 := Lib.hid (H1.out.2.1.fresh hB3)
  have HR1 := Lib.hid (Rt.lit w1 3 (ivals [b, c]) 2 rfl)
  have HB3 := Lib.hid hB3
  clear hrow hx1 hy1 hB3
  go_wp2_with fail
  refine (put_ints _ B g _ 8 8 _ [b, c] HW1.out (Nat.le_trans (Nat.le_trans hB H1.out.2.2.1.size) HB3.out.size) HR1.out rfl (by omega) (by rw [List.length_append, flat_length]; simp; omega) (by simp)).mono ?_
  rintro e w2 h
  have H2 := Lib.hid (H1.out.seq (h.pre HB3.out (Nat.le_trans hB H1.out.2.2.1.size)))
  obtain ⟨rfl, -⟩ := h
  go_wp2_with fail
  go_end0
  have := H2.out
  simpa [esec, Laid, List.append_assoc] using this

set_option maxHeartbeats 2000000 in
theorem one_point (w : World) (B g bw : Nat) (l : List Bool) (s : Int × Int × Int × Int) (hW : Wr w B g l) (hB : B ≤ w.heap.size) (hbw : Row w bw 57 #[.pointer (some ⟨g, 0, none⟩)]) (hl : l.length ≤ 490000) :
    Calls Try.prog 29 #[.agg #[.int .i64 s.1, .int .i64 s.2.1, .int .i64 s.2.2.1, .int .i64 s.2.2.2], .pointer (some ⟨bw, 0, none⟩)] w (Laid B g (l ++ epoint s) w) := by
  obtain ⟨a, b, c, d⟩ := s
  simp only
  have h0 := hbw.cell 0
  simp only [List.getElem?_toArray, List.getElem?_cons_zero] at h0
  have hlt := hbw.lt
  have hB2 := below2 w (.cells #[.int .i64 a, .int .i64 b, .int .i64 c, .int .i64 d] 53) (.cells #[.int .i64 a, .int .i64 b, .int .i64 c, .int .i64 d] 3)
  have HW := Lib.hid (hW.fresh hB2)
  have HR := Lib.hid (Rt.lit2 w (.cells #[.int .i64 a, .int .i64 b, .int .i64 c, .int .i64 d] 53) 3 (ivals [a, b, c, d]) 4 rfl)
  have HB := Lib.hid hB2
  clear hW hbw hB2
  go_enter Try.func29, Try.ntmps29
  go_wp2_with fail
  refine (put_ints _ B g l 8 8 _ [a, b, c, d] HW.out (Nat.le_trans hB HB.out.size) HR.out rfl (by omega) (by omega) (by simp)).mono ?_
  rintro e w1 h
  have H1 := Lib.hid (h.pre HB.out hB)
  obtain ⟨rfl, -⟩ := h
  go_wp2_with fail
  go_end0
  have := H1.out
  simpa [epoint, Laid, List.append_assoc] using this

set_option maxHeartbeats 1000000 in
theorem putList_secs (w : World) (B D g bw : Nat) (l : List Bool) (v : Value) (xs : List (Int × Int × Int)) (hW : Wr w B g l) (hB : B ≤ w.heap.size) (hbw : Row w bw 57 #[.pointer (some ⟨g, 0, none⟩)]) (hv : Secs w D v xs) (hD : D ≤ B) (hg : D ≤ g) (hl : (l ++ elist esec xs).length ≤ 400000) (hxl : xs.length ≤ 1000) :
    Calls Try.prog 25 #[.pointer (some ⟨g, 0, none⟩), v, .func (.func 26) #[] #[.pointer (some ⟨bw, 0, none⟩)]] w (Laid B g (l ++ elist esec xs) w) := by
  obtain ⟨A, c, rfl, hx⟩ := hv
  obtain ⟨n, hn⟩ : ∃ n, n = xs.length := ⟨_, rfl⟩
  rw [← hn] at hxl ⊢
  have HN := Lib.hid hn; have HX := Lib.hid hx; have HLL := Lib.hid hl; clear hn hx hl
  have HW := Lib.hid (hW.alloc (.cells #[.int .i64 (n : Int)] 3))
  have HR := Lib.hid (Rt.lit w 3 (ivals [(n : Int)]) 1 rfl)
  have HB := Lib.hid ((Below.refl w.heap.size w).alloc (Nat.le_refl _) (.cells #[.int .i64 (n : Int)] 3))
  have HBW := Lib.hid hbw
  have HW0 := Lib.hid hW
  clear hW hbw
  go_enter Try.func25, Try.ntmps25
  go_wp2_with fail
  refine (put_ints _ B g l 8 8 _ [(n : Int)] HW.out (Nat.le_trans hB HB.out.size) HR.out rfl (by omega) (by have := head_le esec l xs; have := HLL.out; omega) (by simp)).mono ?_
  rintro e w1 h
  have H1 := Lib.hid (h.pre HB.out hB)
  obtain ⟨rfl, -⟩ := h
  go_wp2_with fail
  go_loopw [15] (fun k wr => ∃ i : Nat, i ≤ n ∧ k = .int .i64 i ∧ Hid (Laid B g (l ++ (nbit 8 (n : Int) ++ (xs.take i).flatMap esec)) w (.returned (.tuple #[])) wr)) (fun k _ => n - (intOf k).toNat)
  case atStart => exact ⟨0, Nat.zero_le _, rfl, Lib.hid (by have := H1.out; simpa [Laid] using this)⟩
  case round =>
    obtain ⟨i, hi, rfl, HI⟩ := hrel
    by_cases hlt : i < n
    · have hiq : i < xs.length := by have := HN.out; omega
      have HT := Lib.hid (flatMap_take esec xs i hiq)
      have HL : Hid ((l ++ (nbit 8 (n : Int) ++ (xs.take i).flatMap esec)).length ≤ 400000) := Nat.le_trans (elist_le esec l xs i n HN.out) HLL.out
      have HL2 : Hid ((l ++ (nbit 8 (n : Int) ++ (xs.take i).flatMap esec) ++ esec xs[i]).length ≤ 400000) := by
        show _ ≤ _
        have := elist_le esec l xs (i + 1) n HN.out
        rw [HT.out] at this
        have h2 := HLL.out
        simp only [List.length_append] at this h2 ⊢; omega
      obtain ⟨cs, hrow⟩ := HW0.out.row
      have HBW1 := Lib.hid (HI.out.2.2.2.row HBW.out (by decide) hrow (by decide))
      clear hrow
      obtain ⟨b, o, rfl, hbD, hc⟩ := HX.out (by omega)
      obtain ⟨q1, q2, q3⟩ := hc i hiq
      have c1 := (HI.out.2.2.1.cellD hD hg ⟨b, o + i * 3, none⟩ hbD).trans q1
      have c2 := (HI.out.2.2.1.cellD hD hg ⟨b, o + i * 3 + 1, none⟩ hbD).trans q2
      have c3 := (HI.out.2.2.1.cellD hD hg ⟨b, o + i * 3 + 2, none⟩ hbD).trans q3
      clear hc q1 q2 q3
      generalize xs[i] = x at *
      have HBF := Lib.hid ((Below.refl wr.heap.size wr).alloc (Nat.le_refl _) (.cells #[.int .i64 x.1, .int .i64 x.2.1, .int .i64 x.2.2] 50))
      go_wp2_with fail
      refine (one_sec _ B g bw _ x (HI.out.2.1.fresh HBF.out) (Nat.le_trans (Nat.le_trans hB HI.out.2.2.1.size) HBF.out.size) (HBW1.out.alloc _) (by have := HL.out; omega)).mono ?_
      rintro e w2 h
      have H2 := Lib.hid (HI.out.seq (h.pre HBF.out (Nat.le_trans hB HI.out.2.2.1.size)))
      obtain ⟨rfl, -⟩ := h
      rw [List.append_assoc, List.append_assoc, ← HT.out] at H2
      go_wp2_with fail
      go_roundw
      case rel => exact ⟨i + 1, by omega, by go_num, H2⟩
      case measure => simp [intOf]; omega
    · have hf : xs.take i = xs := List.take_of_length_le (by have := HN.out; omega)
      have HF := Lib.hid hf; clear hf
      go_wp2
      go_end0
      have := HI.out
      rw [HF.out] at this
      have hn := HN.out
      subst hn
      exact this

set_option maxHeartbeats 1000000 in
theorem putList_points (w : World) (B D g bw : Nat) (l : List Bool) (v : Value) (xs : List (Int × Int × Int × Int)) (hW : Wr w B g l) (hB : B ≤ w.heap.size) (hbw : Row w bw 57 #[.pointer (some ⟨g, 0, none⟩)]) (hv : Pts w D v xs) (hD : D ≤ B) (hg : D ≤ g) (hl : (l ++ elist epoint xs).length ≤ 400000) (hxl : xs.length ≤ 1000) :
    Calls Try.prog 28 #[.pointer (some ⟨g, 0, none⟩), v, .func (.func 29) #[] #[.pointer (some ⟨bw, 0, none⟩)]] w (Laid B g (l ++ elist epoint xs) w) := by
  obtain ⟨A, c, rfl, hx⟩ := hv
  obtain ⟨n, hn⟩ : ∃ n, n = xs.length := ⟨_, rfl⟩
  rw [← hn] at hxl ⊢
  have HN := Lib.hid hn; have HX := Lib.hid hx; have HLL := Lib.hid hl; clear hn hx hl
  have HW := Lib.hid (hW.alloc (.cells #[.int .i64 (n : Int)] 3))
  have HR := Lib.hid (Rt.lit w 3 (ivals [(n : Int)]) 1 rfl)
  have HB := Lib.hid ((Below.refl w.heap.size w).alloc (Nat.le_refl _) (.cells #[.int .i64 (n : Int)] 3))
  have HBW := Lib.hid hbw
  have HW0 := Lib.hid hW
  clear hW hbw
  go_enter Try.func28, Try.ntmps28
  go_wp2_with fail
  refine (put_ints _ B g l 8 8 _ [(n : Int)] HW.out (Nat.le_trans hB HB.out.size) HR.out rfl (by omega) (by have := head_le epoint l xs; have := HLL.out; omega) (by simp)).mono ?_
  rintro e w1 h
  have H1 := Lib.hid (h.pre HB.out hB)
  obtain ⟨rfl, -⟩ := h
  go_wp2_with fail
  go_loopw [15] (fun k wr => ∃ i : Nat, i ≤ n ∧ k = .int .i64 i ∧ Hid (Laid B g (l ++ (nbit 8 (n : Int) ++ (xs.take i).flatMap epoint)) w (.returned (.tuple #[])) wr)) (fun k _ => n - (intOf k).toNat)
  case atStart => exact ⟨0, Nat.zero_le _, rfl, Lib.hid (by have := H1.out; simpa [Laid] using this)⟩
  case round =>
    obtain ⟨i, hi, rfl, HI⟩ := hrel
    by_cases hlt : i < n
    · have hiq : i < xs.length := by have := HN.out; omega
      have HT := Lib.hid (flatMap_take epoint xs i hiq)
      have HL : Hid ((l ++ (nbit 8 (n : Int) ++ (xs.take i).flatMap epoint)).length ≤ 400000) := Nat.le_trans (elist_le epoint l xs i n HN.out) HLL.out
      have HL2 : Hid ((l ++ (nbit 8 (n : Int) ++ (xs.take i).flatMap epoint) ++ epoint xs[i]).length ≤ 400000) := by
        show _ ≤ _
        have := elist_le epoint l xs (i + 1) n HN.out
        rw [HT.out] at this
        have h2 := HLL.out
        simp only [List.length_append] at this h2 ⊢; omega
      obtain ⟨cs, hrow⟩ := HW0.out.row
      have HBW1 := Lib.hid (HI.out.2.2.2.row HBW.out (by decide) hrow (by decide))
      clear hrow
      obtain ⟨b, o, rfl, hbD, hc⟩ := HX.out (by omega)
      obtain ⟨q1, q2, q3, q4⟩ := hc i hiq
      have c1 := (HI.out.2.2.1.cellD hD hg ⟨b, o + i * 4, none⟩ hbD).trans q1
      have c2 := (HI.out.2.2.1.cellD hD hg ⟨b, o + i * 4 + 1, none⟩ hbD).trans q2
      have c3 := (HI.out.2.2.1.cellD hD hg ⟨b, o + i * 4 + 2, none⟩ hbD).trans q3
      have c4 := (HI.out.2.2.1.cellD hD hg ⟨b, o + i * 4 + 3, none⟩ hbD).trans q4
      clear hc q1 q2 q3 q4
      generalize xs[i] = x at *
      have HBF := Lib.hid ((Below.refl wr.heap.size wr).alloc (Nat.le_refl _) (.cells #[.int .i64 x.1, .int .i64 x.2.1, .int .i64 x.2.2.1, .int .i64 x.2.2.2] 53))
      go_wp2_with fail
      refine (one_point _ B g bw _ x (HI.out.2.1.fresh HBF.out) (Nat.le_trans (Nat.le_trans hB HI.out.2.2.1.size) HBF.out.size) (HBW1.out.alloc _) (by have := HL.out; omega)).mono ?_
      rintro e w2 h
      have H2 := Lib.hid (HI.out.seq (h.pre HBF.out (Nat.le_trans hB HI.out.2.2.1.size)))
      obtain ⟨rfl, -⟩ := h
      rw [List.append_assoc, List.append_assoc, ← HT.out] at H2
      go_wp2_with fail
      go_roundw
      case rel => exact ⟨i + 1, by omega, by go_num, H2⟩
      case measure => simp [intOf]; omega
    · have hf : xs.take i = xs := List.take_of_length_le (by have := HN.out; omega)
      have HF := Lib.hid hf; clear hf
      go_wp2
      go_end0
      have := HI.out
      rw [HF.out] at this
      have hn := HN.out
      subst hn
      exact this

set_option maxHeartbeats 1000000 in
theorem putRows_any (w : World) (B D g : Nat) (l : List Bool) (v : Value) (xs : List (List Int)) (hW : Wr w B g l) (hB : B ≤ w.heap.size) (hv : RowsAt w D v xs) (hrl : ∀ r ∈ xs, r.length ≤ 1000) (hD : D ≤ B) (hg : D ≤ g) (hl : (l ++ erows xs).length ≤ 400000) (hxl : xs.length ≤ 1000) :
    Calls Try.prog 27 #[.pointer (some ⟨g, 0, none⟩), v] w (Laid B g (l ++ erows xs) w) := by
  have hb := (Below.refl w.heap.size w).alloc (Nat.le_refl _) (.cells #[.pointer (some ⟨g, 0, none⟩)] 57)
  have HW := Lib.hid (hW.fresh hb)
  have HB := Lib.hid hb
  have HR := Lib.hid (Row.new w 57 #[.pointer (some ⟨g, 0, none⟩)])
  have HV : Hid (RowsAt (w.alloc (.cells #[.pointer (some ⟨g, 0, none⟩)] 57)) D v xs) := by
    obtain ⟨vs, h1, h2, h3⟩ := hv
    exact ⟨vs, h1.fresh hb (Nat.le_trans hD hB), h2, fun i a b => (h3 i a b).fresh hb (Nat.le_trans hD hB)⟩
  obtain ⟨vs, ⟨A, c, rfl, -, -⟩, -, -⟩ := hv
  have HRL := Lib.hid hrl
  clear hW hb hrl
  go_enter Try.func27, Try.ntmps27
  go_wp2_with fail
  refine (putList_rows _ B D g w.heap.size l _ xs HW.out (Nat.le_trans hB HB.out.size) HR.out HV.out HRL.out hD hg hl hxl).mono ?_
  rintro e w1 h
  have H := Lib.hid (h.pre HB.out hB)
  obtain ⟨rfl, -⟩ := h
  go_wp2_with fail
  go_end0
  exact H.out

end Go.Proofs.Ythpfhcelmddjlaa
