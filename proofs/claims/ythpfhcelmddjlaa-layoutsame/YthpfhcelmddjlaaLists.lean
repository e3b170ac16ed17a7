/- Contracts: lists laid by what lays one: numbers, lists of numbers, nodes, sections, points. -/
import Derived.Test.YthpfhcelmddjlaaPuts
namespace Go.Proofs.Ythpfhcelmddjlaa
open Go.RowKit Fl
set_option maxRecDepth 100000

theorem flatMap_take {α : Type} (f : α → List Bool) (xs : List α) (i : Nat) (h : i < xs.length) : (xs.take (i + 1)).flatMap f = (xs.take i).flatMap f ++ f xs[i] := by
  rw [List.take_succ_eq_append_getElem h, List.flatMap_append]; simp

theorem flatMap_le {α : Type} (f : α → List Bool) (xs : List α) (i : Nat) : ((xs.take i).flatMap f).length ≤ (xs.flatMap f).length := by
  have : xs.flatMap f = (xs.take i).flatMap f ++ (xs.drop i).flatMap f := by rw [← List.flatMap_append, List.take_append_drop]
  rw [this, List.length_append]; omega

theorem elist_le {α : Type} (f : α → List Bool) (l : List Bool) (xs : List α) (i n : Nat) (hn : n = xs.length) : (l ++ (nbit 8 (n : Int) ++ (xs.take i).flatMap f)).length ≤ (l ++ elist f xs).length := by
  subst hn
  have := flatMap_le f xs i
  unfold elist
  simp only [List.length_append]; omega

theorem head_le {α : Type} (f : α → List Bool) (l : List Bool) (xs : List α) : l.length ≤ (l ++ elist f xs).length := by rw [List.length_append]; omega

theorem Rd.kept {w w' : World} {D B g : Nat} {v : Value} {xs : List Value} (h : Rd w D v xs) (hk : Kept B g w w') (hD : D ≤ B) (hg : D ≤ g) : Rd w' D v xs := h.mono (Nat.le_refl _) (hk.cellD hD hg)

theorem Rd.fresh {w w' : World} {D : Nat} {v : Value} {xs : List Value} (h : Rd w D v xs) (hb : Below w.heap.size w w') (hD : D ≤ w.heap.size) : Rd w' D v xs := h.below hb hD

/-- Lists of numbers. -/
def RowsAt (w : World) (D : Nat) (v : Value) (rows : List (List Int)) : Prop :=
  ∃ vs : List Value, Rd w D v vs ∧ vs.length = rows.length ∧ ∀ i (h1 : i < vs.length) (h2 : i < rows.length), Rd w D vs[i] (ivals rows[i])

def Secs (w : World) (D : Nat) (v : Value) (xs : List (Int × Int × Int)) : Prop :=
  ∃ (A : Option Addr) (c : Nat), v = .slice A xs.length c ∧ (0 < xs.length → ∃ b o, A = some ⟨b, o, none⟩ ∧ b < D ∧ ∀ j (h : j < xs.length), w.cell? ⟨b, o + j * 3, none⟩ = some (.int .i64 xs[j].1) ∧ w.cell? ⟨b, o + j * 3 + 1, none⟩ = some (.int .i64 xs[j].2.1) ∧ w.cell? ⟨b, o + j * 3 + 2, none⟩ = some (.int .i64 xs[j].2.2))

def Pts (w : World) (D : Nat) (v : Value) (xs : List (Int × Int × Int × Int)) : Prop :=
  ∃ (A : Option Addr) (c : Nat), v = .slice A xs.length c ∧ (0 < xs.length → ∃ b o, A = some ⟨b, o, none⟩ ∧ b < D ∧ ∀ j (h : j < xs.length), w.cell? ⟨b, o + j * 4, none⟩ = some (.int .i64 xs[j].1) ∧ w.cell? ⟨b, o + j * 4 + 1, none⟩ = some (.int .i64 xs[j].2.1) ∧ w.cell? ⟨b, o + j * 4 + 2, none⟩ = some (.int .i64 xs[j].2.2.1) ∧ w.cell? ⟨b, o + j * 4 + 3, none⟩ = some (.int .i64 xs[j].2.2.2))

/-- The words that stand for whole numbers. -/
def FlN (ps : List (Nat × Nat)) (zs : List (Int × Int)) : Prop := ps.length = zs.length ∧ ∀ i (h1 : i < ps.length) (h2 : i < zs.length), Fl 0 ps[i].1 zs[i].1 ∧ Fl 0 ps[i].2 zs[i].2


set_option maxHeartbeats 1000000 in
theorem putList_ints (w : World) (B D g bw : Nat) (l : List Bool) (v : Value) (xs : List Int) (hW : Wr w B g l) (hB : B ≤ w.heap.size) (hbw : Row w bw 57 #[.pointer (some ⟨g, 0, none⟩)]) (hv : Rd w D v (ivals xs)) (hD : D ≤ B) (hg : D ≤ g) (hl : (l ++ elist eint xs).length ≤ 400000) (hxl : xs.length ≤ 1000) :
    Calls Try.prog 53 #[.pointer (some ⟨g, 0, none⟩), v, .func (.func 54) #[] #[.pointer (some ⟨bw, 0, none⟩)]] w (Laid B g (l ++ elist eint xs) w) := by
  obtain ⟨A, c, rfl, -, hx⟩ := hv
  rw [ivals_length] at *
  obtain ⟨n, hn⟩ : ∃ n, n = xs.length := ⟨_, rfl⟩
  rw [← hn] at hx hxl ⊢
  have HN := Lib.hid hn; have HX := Lib.hid hx; have HLL := Lib.hid hl; clear hn hx hl
  have HW := Lib.hid (hW.alloc (.cells #[.int .i64 (n : Int)] 3))
  have HR := Lib.hid (Rt.lit w 3 (ivals [(n : Int)]) 1 rfl)
  have HB := Lib.hid ((Below.refl w.heap.size w).alloc (Nat.le_refl _) (.cells #[.int .i64 (n : Int)] 3))
  have HBW := Lib.hid hbw
  have HW0 := Lib.hid hW
  clear hW hbw
  go_enter Try.func53, Try.ntmps53
  go_wp2_with fail
  refine (put_ints _ B g l 8 8 _ [(n : Int)] HW.out (Nat.le_trans hB HB.out.size) HR.out rfl (by omega) (by have := head_le eint l xs; have := HLL.out; omega) (by simp)).mono ?_
  rintro e w1 h
  have H1 := Lib.hid (h.pre HB.out hB)
  obtain ⟨rfl, -⟩ := h
  go_wp2_with fail
  go_loopw [15] (fun k wr => ∃ i : Nat, i ≤ n ∧ k = .int .i64 i ∧ Hid (Laid B g (l ++ (nbit 8 (n : Int) ++ (xs.take i).flatMap eint)) w (.returned (.tuple #[])) wr)) (fun k _ => n - (intOf k).toNat)
  case atStart => exact ⟨0, Nat.zero_le _, rfl, Lib.hid (by have := H1.out; simpa [Laid] using this)⟩
  case round =>
    obtain ⟨i, hi, rfl, HI⟩ := hrel
    by_cases hlt : i < n
    · have hiq : i < xs.length := by have := HN.out; omega
      have HT := Lib.hid (flatMap_take eint xs i hiq)
      have HL : Hid ((l ++ (nbit 8 (n : Int) ++ (xs.take i).flatMap eint)).length ≤ 400000) := Nat.le_trans (elist_le eint l xs i n HN.out) HLL.out
      have HL2 : Hid ((l ++ (nbit 8 (n : Int) ++ (xs.take i).flatMap eint) ++ eint xs[i]).length ≤ 400000) := by
        show _ ≤ _
        have := elist_le eint l xs (i + 1) n HN.out
        rw [HT.out] at this
        have h2 := HLL.out
        simp only [List.length_append] at this h2 ⊢; omega
      obtain ⟨cs, hrow⟩ := HW0.out.row
      have HBW1 := Lib.hid (HI.out.2.2.2.row HBW.out (by decide) hrow (by decide))
      clear hrow
      obtain ⟨b, o, rfl, hbD, hc⟩ := HX.out (by omega)
      have hcell : wr.cell? ⟨b, o + i, none⟩ = some (.int .i64 xs[i]) := (HI.out.2.2.1.cellD hD hg ⟨b, o + i, none⟩ hbD).trans (hc i _ (ivals_get xs i hiq))
      clear hc
      generalize xs[i] = x at *
      go_wp2_with fail
      refine (one_int wr B g bw _ x HI.out.2.1 (Nat.le_trans hB HI.out.2.2.1.size) HBW1.out (by have := HL.out; omega)).mono ?_
      rintro e w2 h
      have H2 := Lib.hid (HI.out.seq h)
      obtain ⟨rfl, -⟩ := h
      rw [List.append_assoc, List.append_assoc, ← HT.out] at H2
      go_wp2_with fail
      go_roundw
      case rel => exact ⟨i + 1, by omega, by go_num, H2⟩
      case measure => simp [intOf]; omega
    · have hf : xs.take i = xs := List.take_of_length_le (by have := HN.out; omega)
      have HF := Lib.hid hf; clear hf
      go_wp2
      go_end0
      have := HI.out
      rw [HF.out] at this
      have hn := HN.out
      subst hn
      exact this

set_option maxHeartbeats 1000000 in
theorem one_row (w : World) (B D g bw : Nat) (l : List Bool) (v : Value) (xs : List Int) (hW : Wr w B g l) (hB : B ≤ w.heap.size) (hbw : Row w bw 57 #[.pointer (some ⟨g, 0, none⟩)]) (hv : Rd w D v (ivals xs)) (hD : D ≤ B) (hg : D ≤ g) (hl : (l ++ erow xs).length ≤ 400000) (hxl : xs.length ≤ 1000) :
    Calls Try.prog 52 #[v, .pointer (some ⟨bw, 0, none⟩)] w (Laid B g (l ++ erow xs) w) := by
  have h0 := hbw.cell 0
  simp only [List.getElem?_toArray, List.getElem?_cons_zero] at h0
  have HW := Lib.hid hW; have HBW := Lib.hid hbw; have HV := Lib.hid hv
  obtain ⟨A, c, rfl, -, -⟩ := hv
  rw [ivals_length] at *
  clear hW hbw
  go_enter Try.func52, Try.ntmps52
  go_wp2_with fail
  refine (putList_ints w B D g bw l _ xs HW.out hB HBW.out HV.out hD hg hl hxl).mono ?_
  rintro e w1 h
  have H := Lib.hid h
  obtain ⟨rfl, -⟩ := h
  go_wp2_with fail
  go_end0
  exact H.out

set_option maxHeartbeats 1000000 in
theorem putList_rows (w : World) (B D g bw : Nat) (l : List Bool) (v : Value) (xs : List (List Int)) (hW : Wr w B g l) (hB : B ≤ w.heap.size) (hbw : Row w bw 57 #[.pointer (some ⟨g, 0, none⟩)]) (hv : RowsAt w D v xs) (hrl : ∀ r ∈ xs, r.length ≤ 1000) (hD : D ≤ B) (hg : D ≤ g) (hl : (l ++ elist erow xs).length ≤ 400000) (hxl : xs.length ≤ 1000) :
    Calls Try.prog 51 #[.pointer (some ⟨g, 0, none⟩), v, .func (.func 52) #[] #[.pointer (some ⟨bw, 0, none⟩)]] w (Laid B g (l ++ elist erow xs) w) := by
  obtain ⟨vs, hv, hvl, hve⟩ := hv
  obtain ⟨A, c, rfl, -, hx⟩ := hv
  have HVL := Lib.hid hvl
  rw [hvl] at hx ⊢
  have HVE := Lib.hid hve; have HRL := Lib.hid hrl; clear hvl hve hrl
  obtain ⟨n, hn⟩ : ∃ n, n = xs.length := ⟨_, rfl⟩
  rw [← hn] at hx hxl ⊢
  have HN := Lib.hid hn; have HX := Lib.hid hx; have HLL := Lib.hid hl; clear hn hx hl
  have HW := Lib.hid (hW.alloc (.cells #[.int .i64 (n : Int)] 3))
  have HR := Lib.hid (Rt.lit w 3 (ivals [(n : Int)]) 1 rfl)
  have HB := Lib.hid ((Below.refl w.heap.size w).alloc (Nat.le_refl _) (.cells #[.int .i64 (n : Int)] 3))
  have HBW := Lib.hid hbw
  have HW0 := Lib.hid hW
  clear hW hbw
  go_enter Try.func51, Try.ntmps51
  go_wp2_with fail
  refine (put_ints _ B g l 8 8 _ [(n : Int)] HW.out (Nat.le_trans hB HB.out.size) HR.out rfl (by omega) (by have := head_le erow l xs; have := HLL.out; omega) (by simp)).mono ?_
  rintro e w1 h
  have H1 := Lib.hid (h.pre HB.out hB)
  obtain ⟨rfl, -⟩ := h
  go_wp2_with fail
  go_loopw [15] (fun k wr => ∃ i : Nat, i ≤ n ∧ k = .int .i64 i ∧ Hid (Laid B g (l ++ (nbit 8 (n : Int) ++ (xs.take i).flatMap erow)) w (.returned (.tuple #[])) wr)) (fun k _ => n - (intOf k).toNat)
  case atStart => exact ⟨0, Nat.zero_le _, rfl, Lib.hid (by have := H1.out; simpa [Laid] using this)⟩
  case round =>
    obtain ⟨i, hi, rfl, HI⟩ := hrel
    by_cases hlt : i < n
    · have hiq : i < xs.length := by have := HN.out; omega
      have HT := Lib.hid (flatMap_take erow xs i hiq)
      have HL : Hid ((l ++ (nbit 8 (n : Int) ++ (xs.take i).flatMap erow)).length ≤ 400000) := Nat.le_trans (elist_le erow l xs i n HN.out) HLL.out
      have HL2 : Hid ((l ++ (nbit 8 (n : Int) ++ (xs.take i).flatMap erow) ++ erow xs[i]).length ≤ 400000) := by
        show _ ≤ _
        have := elist_le erow l xs (i + 1) n HN.out
        rw [HT.out] at this
        have h2 := HLL.out
        simp only [List.length_append] at this h2 ⊢; omega
      obtain ⟨cs, hrow⟩ := HW0.out.row
      have HBW1 := Lib.hid (HI.out.2.2.2.row HBW.out (by decide) hrow (by decide))
      clear hrow
      obtain ⟨b, o, rfl, hbD, hc⟩ := HX.out (by omega)
      have hiv : i < vs.length := by have := HVL.out; omega
      have hcell : wr.cell? ⟨b, o + i, none⟩ = some vs[i] := (HI.out.2.2.1.cellD hD hg ⟨b, o + i, none⟩ hbD).trans (hc i _ (List.getElem?_eq_getElem hiv))
      have HE := Lib.hid ((HVE.out i hiv hiq).kept HI.out.2.2.1 hD hg)
      have HRI := Lib.hid (HRL.out xs[i] (List.getElem_mem _))
      clear hc
      generalize vs[i] = u at *
      generalize xs[i] = x at *
      obtain ⟨A', c', rfl, -, -⟩ := id HE.out
      simp only [ivals_length] at *
      go_wp2_with fail
      refine (one_row wr B D g bw _ _ x HI.out.2.1 (Nat.le_trans hB HI.out.2.2.1.size) HBW1.out HE.out hD hg HL2.out HRI.out).mono ?_
      rintro e w2 h
      have H2 := Lib.hid (HI.out.seq h)
      obtain ⟨rfl, -⟩ := h
      rw [List.append_assoc, List.append_assoc, ← HT.out] at H2
      go_wp2_with fail
      go_roundw
      case rel => exact ⟨i + 1, by omega, by go_num, H2⟩
      case measure => simp [intOf]; omega
    · have hf : xs.take i = xs := List.take_of_length_le (by have := HN.out; omega)
      have HF := Lib.hid hf; clear hf
      go_wp2
      go_end0
      have := HI.out
      rw [HF.out] at this
      have hn := HN.out
      subst hn
      exact this

set_option maxHeartbeats 1000000 in
theorem one_node (w : World) (B g bw : Nat) (l : List Bool) (x y : Nat) (z : Int × Int) (hz : Fl 0 x z.1 ∧ Fl 0 y z.2) (hb : (z.1.natAbs ≤ 4000000000 ∧ z.2.natAbs ≤ 4000000000)) (hW : Wr w B g l) (hB : B ≤ w.heap.size) (hbw : Row w bw 57 #[.pointer (some ⟨g, 0, none⟩)]) (hl : l.length ≤ 500000) :
    Calls Try.prog 24 #[.complex .f64 x y, .pointer (some ⟨bw, 0, none⟩)] w (Laid B g (l ++ enode z) w) := by
  obtain ⟨a, b⟩ := z
  simp only at hz hb
  have c1 : ∀ w, (convert 48 3 (.float .f64 x)).run Try.prog w = .ok (.int .i64 a) w := fun w => run_convert_float_int w 48 3 .f64 .i64 x a (by rw [Try.underlying48]; rfl) Try.underlying3 (fl_toInt hz.1 (by omega) (by omega))
  have c2 : ∀ w, (convert 48 3 (.float .f64 y)).run Try.prog w = .ok (.int .i64 b) w := fun w => run_convert_float_int w 48 3 .f64 .i64 y b (by rw [Try.underlying48]; rfl) Try.underlying3 (fl_toInt hz.2 (by omega) (by omega))
  have h0 := hbw.cell 0
  simp only [List.getElem?_toArray, List.getElem?_cons_zero] at h0
  have HW := Lib.hid (hW.alloc (.cells #[.int .i64 a, .int .i64 b] 3))
  have HR := Lib.hid (Rt.lit w 3 (ivals [a, b]) 2 rfl)
  have HB := Lib.hid ((Below.refl w.heap.size w).alloc (Nat.le_refl _) (.cells #[.int .i64 a, .int .i64 b] 3))
  clear hW hbw hz hb
  go_enter Try.func24, Try.ntmps24
  go_wp2_with fail
  refine (put_ints _ B g l 32 32 _ [a, b] HW.out (Nat.le_trans hB HB.out.size) HR.out rfl (by omega) hl (by simp)).mono ?_
  rintro e w1 h
  have H := Lib.hid (h.pre HB.out hB)
  obtain ⟨rfl, -⟩ := h
  go_wp2_with fail
  go_end0
  have := H.out
  simpa [enode, Laid] using this

set_option maxHeartbeats 1000000 in
theorem putList_nodes (w : World) (B D g bw : Nat) (l : List Bool) (v : Value) (ps : List (Nat × Nat)) (xs : List (Int × Int)) (hW : Wr w B g l) (hB : B ≤ w.heap.size) (hbw : Row w bw 57 #[.pointer (some ⟨g, 0, none⟩)]) (hv : Rd w D v (nvals ps)) (hf : FlN ps xs) (hzb : ∀ p ∈ xs, p.1.natAbs ≤ 4000000000 ∧ p.2.natAbs ≤ 4000000000) (hD : D ≤ B) (hg : D ≤ g) (hl : (l ++ elist enode xs).length ≤ 400000) (hxl : xs.length ≤ 1000) :
    Calls Try.prog 23 #[.pointer (some ⟨g, 0, none⟩), v, .func (.func 24) #[] #[.pointer (some ⟨bw, 0, none⟩)]] w (Laid B g (l ++ elist enode xs) w) := by
  obtain ⟨A, c, rfl, -, hx⟩ := hv
  rw [nvals_length] at *
  have HFN := Lib.hid hf
  rw [hf.1] at hx ⊢
  have HZB := Lib.hid hzb; clear hf hzb
  obtain ⟨n, hn⟩ : ∃ n, n = xs.length := ⟨_, rfl⟩
  rw [← hn] at hx hxl ⊢
  have HN := Lib.hid hn; have HX := Lib.hid hx; have HLL := Lib.hid hl; clear hn hx hl
  have HW := Lib.hid (hW.alloc (.cells #[.int .i64 (n : Int)] 3))
  have HR := Lib.hid (Rt.lit w 3 (ivals [(n : Int)]) 1 rfl)
  have HB := Lib.hid ((Below.refl w.heap.size w).alloc (Nat.le_refl _) (.cells #[.int .i64 (n : Int)] 3))
  have HBW := Lib.hid hbw
  have HW0 := Lib.hid hW
  clear hW hbw
  go_enter Try.func23, Try.ntmps23
  go_wp2_with fail
  refine (put_ints _ B g l 8 8 _ [(n : Int)] HW.out (Nat.le_trans hB HB.out.size) HR.out rfl (by omega) (by have := head_le enode l xs; have := HLL.out; omega) (by simp)).mono ?_
  rintro e w1 h
  have H1 := Lib.hid (h.pre HB.out hB)
  obtain ⟨rfl, -⟩ := h
  go_wp2_with fail
  go_loopw [15] (fun k wr => ∃ i : Nat, i ≤ n ∧ k = .int .i64 i ∧ Hid (Laid B g (l ++ (nbit 8 (n : Int) ++ (xs.take i).flatMap enode)) w (.returned (.tuple #[])) wr)) (fun k _ => n - (intOf k).toNat)
  case atStart => exact ⟨0, Nat.zero_le _, rfl, Lib.hid (by have := H1.out; simpa [Laid] using this)⟩
  case round =>
    obtain ⟨i, hi, rfl, HI⟩ := hrel
    by_cases hlt : i < n
    · have hiq : i < xs.length := by have := HN.out; omega
      have HT := Lib.hid (flatMap_take enode xs i hiq)
      have HL : Hid ((l ++ (nbit 8 (n : Int) ++ (xs.take i).flatMap enode)).length ≤ 400000) := Nat.le_trans (elist_le enode l xs i n HN.out) HLL.out
      have HL2 : Hid ((l ++ (nbit 8 (n : Int) ++ (xs.take i).flatMap enode) ++ enode xs[i]).length ≤ 400000) := by
        show _ ≤ _
        have := elist_le enode l xs (i + 1) n HN.out
        rw [HT.out] at this
        have h2 := HLL.out
        simp only [List.length_append] at this h2 ⊢; omega
      obtain ⟨cs, hrow⟩ := HW0.out.row
      have HBW1 := Lib.hid (HI.out.2.2.2.row HBW.out (by decide) hrow (by decide))
      clear hrow
      obtain ⟨b, o, rfl, hbD, hc⟩ := HX.out (by omega)
      have hip : i < ps.length := by have := HFN.out.1; omega
      have hcell : wr.cell? ⟨b, o + i, none⟩ = some (.complex .f64 ps[i].1 ps[i].2) := (HI.out.2.2.1.cellD hD hg ⟨b, o + i, none⟩ hbD).trans (hc i _ (nvals_get ps i hip))
      have HE := Lib.hid (HFN.out.2 i hip hiq)
      have HZ := Lib.hid (HZB.out xs[i] (List.getElem_mem _))
      clear hc
      generalize xs[i] = z at *
      generalize ps[i].1 = x at *
      generalize ps[i].2 = y at *
      go_wp2_with fail
      refine (one_node wr B g bw _ x y z HE.out HZ.out HI.out.2.1 (Nat.le_trans hB HI.out.2.2.1.size) HBW1.out (by have := HL.out; omega)).mono ?_
      rintro e w2 h
      have H2 := Lib.hid (HI.out.seq h)
      obtain ⟨rfl, -⟩ := h
      rw [List.append_assoc, List.append_assoc, ← HT.out] at H2
      go_wp2_with fail
      go_roundw
      case rel => exact ⟨i + 1, by omega, by go_num, H2⟩
      case measure => simp [intOf]; omega
    · have hf : xs.take i = xs := List.take_of_length_le (by have := HN.out; omega)
      have HF := Lib.hid hf; clear hf
      go_wp2
      go_end0
      have := HI.out
      rw [HF.out] at this
      have hn := HN.out
      subst hn
      exact this

end Go.Proofs.Ythpfhcelmddjlaa
