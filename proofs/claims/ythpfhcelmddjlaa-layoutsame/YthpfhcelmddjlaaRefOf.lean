/- The document's own reckoning of the sum: the register as sixteen bools in memory. -/
import Derived.Test.YthpfhcelmddjlaaStep
namespace Go.Proofs.Ythpfhcelmddjlaa
open Go.RowKit

def cellsB (f : Nat → Bool) : Array Value := ((List.range 16).map fun i => Value.bool (f i)).toArray

/-- Block 'g' holds these sixteen bools. -/
def Bk (w : World) (g : Nat) (f : Nat → Bool) : Prop := Row w g 123 (cellsB f)

theorem Bk.cell {w : World} {g : Nat} {f : Nat → Bool} (h : Bk w g f) (i : Nat) (hi : i < 16) : w.cell? ⟨g, i, none⟩ = some (.bool (f i)) := by
  rw [Row.cell h i]; unfold cellsB; simp [hi]
theorem Bk.frozen {w : World} {g : Nat} {f : Nat → Bool} (h : Bk w g f) (i : Nat) : w.frozen? ⟨g, i, none⟩ = false := Row.frozen h i
theorem Bk.set {w : World} {g : Nat} {f : Nat → Bool} (h : Bk w g f) (i : Nat) (b : Bool) : Bk (w.setCell ⟨g, i, none⟩ (.bool b)) g (fun j => if j = i then b else f j) := by
  have := Row.set h i (.bool b)
  unfold Bk
  have e : (cellsB f).setIfInBounds i (.bool b) = cellsB (fun j => if j = i then b else f j) := by
    apply Array.ext
    · simp [cellsB]
    · intro j h1 h2
      rw [Array.getElem_setIfInBounds (by simpa using h1)]
      by_cases c : i = j
      · subst c; simp [cellsB]
      · simp [cellsB, c, show ¬ j = i from fun e => c e.symm]
  rw [← e]; exact this
theorem Bk.congr {w : World} {g : Nat} {f f' : Nat → Bool} (h : Bk w g f) (e : ∀ i, i < 16 → f i = f' i) : Bk w g f' := by
  unfold Bk at *
  have : cellsB f = cellsB f' := by
    unfold cellsB
    congr 1
    apply List.map_congr_left
    intro i hi
    rw [e i (by simpa using hi)]
  rw [← this]; exact h

theorem below_drewN {B : Nat} {a w : World} (h : Below B a w) (n : Nat) : Below B a (w.drewN n) := ⟨h.os, h.tape, h.output, h.size, h.block⟩
theorem Bk.drewN {w : World} {g : Nat} {f : Nat → Bool} (h : Bk w g f) (n : Nat) : Bk (w.drewN n) g f := h

theorem shr_bit (N k : Nat) : ((((N : Int) / 2 ^ k) % 2 == 1) : Bool) = N.testBit k := by
  rw [Nat.testBit_eq_decide_div_mod_eq]
  have h1 : (N : Int) / 2 ^ k = ((N / 2 ^ k : Nat) : Int) := by simp
  rw [h1]
  generalize N / 2 ^ k = z
  rcases Nat.mod_two_eq_zero_or_one z with c | c
  · rw [c, show ((z : Int) % 2) = 0 from by omega]; rfl
  · rw [c, show ((z : Int) % 2) = 1 from by omega]; rfl

theorem shr_bit_t (N k : Nat) : ((((N : Int) / 2 ^ k).tmod 2 == 1) : Bool) = N.testBit k := by
  have h1 : (0 : Int) ≤ (N : Int) / 2 ^ k := by
    have e : (N : Int) / 2 ^ k = ((N / 2 ^ k : Nat) : Int) := by simp
    rw [e]; exact Int.natCast_nonneg _
  rw [Int.tmod_eq_emod_of_nonneg h1]; exact shr_bit N k

theorem ones_bit (i : Nat) (h : i < 16) : (65535 : Nat).testBit i = true := by
  have := Nat.testBit_two_pow_sub_one 16 i
  rw [show 2 ^ 16 - 1 = 65535 from by decide] at this
  rw [this]; simp [h]

theorem half_bit (R i : Nat) (hR : R < 65536) (h : i < 16) : (R / 2).testBit i = if i = 15 then false else R.testBit (i + 1) := by
  rw [Nat.testBit_div_two]
  split
  · rename_i c; subst c; exact Nat.testBit_lt_two_pow (by omega)
  · rfl

theorem flip_bit (R i : Nat) (hR : R < 65536) (h : i < 16) : (R / 2 ^^^ 40961).testBit i = if i = 15 then true else if i = 13 then !R.testBit 14 else if i = 0 then !R.testBit 1 else R.testBit (i + 1) := by
  rw [Nat.testBit_xor, half_bit R i hR h]
  have : ∀ j : Fin 16, (40961 : Nat).testBit j.val = decide (j.val = 15 ∨ j.val = 13 ∨ j.val = 0) := by decide
  rw [this ⟨i, h⟩]
  by_cases c1 : i = 15
  · subst c1; simp
  · by_cases c2 : i = 13
    · subst c2; simp
    · by_cases c3 : i = 0
      · subst c3; simp
      · simp [c1, c2, c3]

theorem next_num (N j : Nat) : N / 2 ^ j = 2 * (N / 2 ^ (j + 1)) + (N.testBit j).toNat := by
  rw [← shift_bit, ← low_bit N j, Nat.testBit_zero]
  generalize N / 2 ^ j = z
  rcases Nat.mod_two_eq_zero_or_one z with c | c <;> simp [c] <;> omega

theorem last_rel (N M j b : Nat) (hj : j < 16) {bt : Nat} (hX : N / 2 ^ j = 2 * M + bt) (hb : bt = b) (y : Int) (hy : y = 2 * (M : Int) + b) :
    True ∧ ((∃ k : Nat, k < 16 ∧ Value.int .i64 ((j : Int) - 1) = .int .i64 k ∧ Value.int .u16 y = .int .u16 (N / 2 ^ (k + 1) : Nat)) ∨ (Value.int .i64 ((j : Int) - 1) = .int .i64 (-1) ∧ Value.int .u16 y = .int .u16 (N : Int))) := by
  refine ⟨trivial, ?_⟩
  by_cases h0 : j = 0
  · subst h0
    refine Or.inr ⟨rfl, ?_⟩
    rw [Nat.pow_zero, Nat.div_one] at hX
    rw [hX, hy, hb]; congr 1
  · refine Or.inl ⟨j - 1, by omega, ?_, ?_⟩
    · congr 1; omega
    · rw [show j - 1 + 1 = j from by omega, hX, hy, hb]; congr 1

set_option maxHeartbeats 4000000 in
theorem refOf_any (w : World) (B : Nat) (v : Value) (q : List Nat) (h : Rd w B v (bvals q)) (hB : B ≤ w.heap.size) (hq : ∀ x ∈ q, x < 256) (hl : q.length ≤ 10000000) :
    Calls Try.prog 49 #[v] w fun e w' => e = .returned (.int .u16 (sumOf q : Nat)) ∧ Below w.heap.size w w' := by
  obtain ⟨A, c, rfl, -, hA⟩ := h
  rw [bvals_length] at *
  have HA := Lib.hid hA; have HQ := Lib.hid hq
  clear hA hq
  generalize hn : q.length = n at *
  have Hn := Lib.hid hn; clear hn
  have h0 : Bk (w.alloc (.cells (cellsB fun _ => false) 123)) w.heap.size (fun j => decide (j < 0)) := by
    have := Row.new w 123 (cellsB fun _ => false)
    exact Bk.congr (f := fun _ => false) this (fun i _ => by simp)
  have hb0 : Below w.heap.size w (w.alloc (.cells (cellsB fun _ => false) 123)) := (Below.refl _ _).alloc (Nat.le_refl _) _
  have H0 : Hid (Bk (w.alloc (.cells (cellsB fun _ => false) 123)) w.heap.size (fun j => decide (j < 0)) ∧ Below w.heap.size w (w.alloc (.cells (cellsB fun _ => false) 123))) := ⟨h0, hb0⟩
  clear h0 hb0
  have HB := Lib.hid hB; clear hB
  go_enter Try.func49, Try.ntmps49
  go_wp2_with fail
  generalize hg : w.heap.size = g at *
  have HG := Lib.hid hg; clear hg
  go_loopw [4] (fun t wr => ∃ i : Nat, i ≤ 16 ∧ t = .int .i64 i ∧ Hid (Bk wr g (fun j => decide (j < i)) ∧ Below g w wr)) (fun t _ => 16 - (intOf t).toNat)
  case atStart => exact ⟨0, Nat.zero_le _, rfl, H0.out⟩
  case round =>
    obtain ⟨i, hi, rfl, HI⟩ := hrel
    by_cases hlt : i < 16
    · have hc := HI.out.1.cell i hlt
      have hf := HI.out.1.frozen i
      have H2 : Hid (Bk (wr.setCell ⟨g, i, none⟩ (.bool true)) g (fun j => decide (j < i + 1)) ∧ Below g w (wr.setCell ⟨g, i, none⟩ (.bool true))) :=
        ⟨(HI.out.1.set i true).congr (fun j _ => by by_cases c : j = i <;> simp [c] <;> omega), HI.out.2.setCell (Nat.le_refl _) _⟩
      go_wp2
      go_roundw
      case rel => exact ⟨i + 1, by omega, by go_num, H2⟩
      case measure => simp [intOf]; omega
    · have H2 : Hid (Bk wr g (reg (q.take 0)).testBit ∧ Below g w wr) := ⟨HI.out.1.congr (fun j hj => by rw [show reg (q.take 0) = 65535 from rfl, ones_bit j hj]; simp; omega), HI.out.2⟩
      obtain ⟨wS, hwS⟩ : ∃ x, x = wr := ⟨_, rfl⟩
      subst hwS
      clear H0 HI
      go_wp2_with fail
      go_loopw [5] (fun t wr => ∃ i : Nat, i ≤ n ∧ t = .int .i64 i ∧ Hid (Bk wr g (reg (q.take i)).testBit ∧ Below g w wr)) (fun t _ => n - (intOf t).toNat)
      case atStart => exact ⟨0, Nat.zero_le _, rfl, H2⟩
      case round =>
        obtain ⟨i, hi, rfl, HI⟩ := hrel
        clear H2
        obtain ⟨wO, hwO⟩ : ∃ x, x = wr := ⟨_, rfl⟩
        subst hwO
        have hr := reg_lt (q.take i)
        by_cases hlt : i < n
        · have hiq : i < q.length := by have := Hn.out; omega
          have HS := Lib.hid (reg_take_succ q i hiq)
          have hx := HQ.out q[i] (List.getElem_mem _)
          have hget := bvals_get q i hiq
          generalize q[i] = x at *
          generalize hR : reg (q.take i) = R at *
          clear hR
          have H3 : Hid (∃ b o, A = some ⟨b, o, none⟩ ∧ ∀ wr, Below g w wr → wr.cell? ⟨b, o + i, none⟩ = some (.int .u8 (x : Int))) := by
            obtain ⟨b, o, hA, hb, h1⟩ := HA.out (by omega)
            exact ⟨b, o, hA, fun wr hw => (hw.cell (p := ⟨b, o + i, none⟩) (show b < g by have := HB.out; have := HG.out; omega)).trans (h1 i _ hget)⟩
          obtain ⟨b, o, rfl, h1⟩ := H3.out
          have H1 := Lib.hid h1
          clear h1 H3 hget
          go_wp2_with fail
          go_loopw [6] (fun t wr => ∃ k : Nat, k ≤ 8 ∧ t = .int .i64 k ∧ Hid (Bk wr g (bitsStep R x k).testBit ∧ Below g w wr)) (fun t _ => 8 - (intOf t).toNat)
          case atStart => exact ⟨0, Nat.zero_le _, rfl, HI⟩
          case round =>
            obtain ⟨k, hk, rfl, HK⟩ := hrel
            obtain ⟨wI, hwI⟩ : ∃ x, x = wr := ⟨_, rfl⟩
            subst hwI
            by_cases hlt8 : k < 8
            · have hR2 := bitsStep_lt hr x k
              have HSt : Hid (bitsStep R x (k + 1) = bitStep (bitsStep R x k) (x.testBit k)) := rfl
              generalize hRR : bitsStep R x k = R2 at *
              clear hRR
              have hc0 := HK.out.1.cell 0 (by omega)
              have hcx := H1.out _ HK.out.2
              have hbit := shr_bit_t x k
              generalize hbx : x.testBit k = bx at *
              generalize hu0 : R2.testBit 0 = u0 at *
              have HU := Lib.hid hu0
              clear hbx hu0
              have HT : Hid (bitsStep R x (k + 1) = if u0 != bx then R2 / 2 ^^^ 40961 else R2 / 2) := by rw [HSt.out]; unfold bitStep; rw [HU.out]; rfl
              clear HSt HU
              cases ht : (u0 != bx)
              all_goals
                rw [ht] at HT
                have ht2 : (u0 == bx) = !(u0 != bx) := by cases u0 <;> cases bx <;> rfl
                rw [ht] at ht2
                go_wp2
                go_quiet (fail)
                have HQ3 : Hid (Bk (wI.drewN nq) g (fun i => if i < 0 then R2.testBit (i + 1) else R2.testBit i) ∧ Below g w (wI.drewN nq)) := ⟨(HK.out.1.drewN nq).congr (fun j _ => by simp), below_drewN HK.out.2 nq⟩
                clear HK hc0 hcx hbit ht2
                go_wp2_with fail
                generalize wI.drewN nq = wJ at *
                go_loopw [8] (fun t wr => ∃ j : Nat, j ≤ 15 ∧ t = .int .i64 j ∧ Hid (Bk wr g (fun i => if i < j then R2.testBit (i + 1) else R2.testBit i) ∧ Below g w wr)) (fun t _ => 15 - (intOf t).toNat)
                case atStart => exact ⟨0, Nat.zero_le _, rfl, HQ3⟩
                case round =>
                  obtain ⟨j, hj, rfl, HJ⟩ := hrel
                  by_cases hlt15 : j < 15
                  · have hcj := HJ.out.1.cell (j + 1) (by omega)
                    have hcj2 := HJ.out.1.cell j (by omega)
                    have hfj := HJ.out.1.frozen j
                    rw [if_neg (by omega)] at hcj
                    have H4 : Hid (Bk (wr.setCell ⟨g, j, none⟩ (.bool (R2.testBit (j + 1)))) g (fun i => if i < j + 1 then R2.testBit (i + 1) else R2.testBit i) ∧ Below g w (wr.setCell ⟨g, j, none⟩ (.bool (R2.testBit (j + 1))))) :=
                      ⟨(HJ.out.1.set j _).congr (fun i _ => by
                        by_cases c : i = j
                        · subst c; simp
                        · by_cases c2 : i < j
                          · simp [c, c2, show i < j + 1 by omega]
                          · simp [c, c2, show ¬ i < j + 1 by omega]), HJ.out.2.setCell (Nat.le_refl _) _⟩
                    generalize R2.testBit (j + 1) = y at *
                    go_wp2
                    go_roundw
                    case rel => exact ⟨j + 1, by omega, by go_num, H4⟩
                    case measure => simp [intOf]; omega
                  · have H15 : Hid (j = 15) := by show j = 15; omega
                    have hc0 := HJ.out.1.cell 0 (by omega)
                    have hc13 := HJ.out.1.cell 13 (by omega)
                    have hc15 := HJ.out.1.cell 15 (by omega)
                    have hf0 := HJ.out.1.frozen 0
                    have hf13 := HJ.out.1.frozen 13
                    have hf15 := HJ.out.1.frozen 15
                    rw [if_pos (by have := H15.out; omega)] at hc0 hc13
                    have H5 : Hid (Bk (wr.setCell ⟨g, 15, none⟩ (.bool false)) g (R2 / 2).testBit ∧ Below g w (wr.setCell ⟨g, 15, none⟩ (.bool false))) :=
                      ⟨(HJ.out.1.set 15 false).congr (fun i hi => by
                        rw [half_bit R2 i hR2 hi]
                        by_cases c : i = 15
                        · simp [c]
                        · simp [c, show i < j by have := H15.out; omega]), HJ.out.2.setCell (Nat.le_refl _) _⟩
                    have H6 : Hid (Bk ((((wr.setCell ⟨g, 15, none⟩ (.bool false)).setCell ⟨g, 0, none⟩ (.bool (!R2.testBit (0 + 1)))).setCell ⟨g, 13, none⟩ (.bool (!R2.testBit (13 + 1)))).setCell ⟨g, 15, none⟩ (.bool true)) g (R2 / 2 ^^^ 40961).testBit ∧
                        Below g w ((((wr.setCell ⟨g, 15, none⟩ (.bool false)).setCell ⟨g, 0, none⟩ (.bool (!R2.testBit (0 + 1)))).setCell ⟨g, 13, none⟩ (.bool (!R2.testBit (13 + 1)))).setCell ⟨g, 15, none⟩ (.bool true))) :=
                      ⟨(((H5.out.1.set 0 _).set 13 _).set 15 true).congr (fun i hi => by
                        rw [flip_bit R2 i hR2 hi]
                        by_cases c : i = 15
                        · simp [c]
                        · by_cases c2 : i = 13
                          · simp [c2]
                          · by_cases c3 : i = 0
                            · simp [c3]
                            · simp [c, c2, c3, half_bit R2 i hR2 hi]), ((H5.out.2.setCell (Nat.le_refl _) _).setCell (Nat.le_refl _) _).setCell (Nat.le_refl _) _⟩
                    generalize R2.testBit (0 + 1) = y0 at *
                    generalize R2.testBit (13 + 1) = y13 at *
                    clear HJ
                    go_wp2
                    go_roundw
                    case rel => exact ⟨k + 1, by omega, by go_num, by rw [HT.out]; first | exact H5.out | exact H6.out⟩
                    case measure => simp [intOf]; omega
            · have H8 : Hid (Bk wI g (reg (q.take (i + 1))).testBit ∧ Below g w wI) := by
                have : k = 8 := by omega
                rw [HS.out, ← this]; exact HK.out
              clear HK
              go_wp2
              go_roundw
              case rel => exact ⟨i + 1, by omega, by go_num, H8⟩
              case measure => simp [intOf]; omega
        · have HZ : Hid (sumOf q = 65535 - reg (q.take i)) := by show sumOf q = _; unfold sumOf; rw [List.take_of_length_le (by have := Hn.out; omega)]
          generalize reg (q.take i) = R at *
          have hN : 65535 - R < 65536 := by omega
          have HNB : Hid (∀ j, j < 16 → R.testBit j = !(65535 - R).testBit j) := fun j hj => by rw [sum_bit hr j hj]; simp
          have Hr := Lib.hid hr
          clear hr
          generalize 65535 - R = N at *
          go_wp2_with fail
          go_loopw [9, 10] (fun a t wr => wO = wr ∧ ((∃ j : Nat, j < 16 ∧ t = .int .i64 j ∧ a = .int .u16 (N / 2 ^ (j + 1) : Nat)) ∨ (t = .int .i64 (-1) ∧ a = .int .u16 (N : Int)))) (fun _ t _ => (intOf t + 1).toNat)
          case atStart => exact ⟨rfl, Or.inl ⟨15, by omega, rfl, by rw [Nat.div_eq_of_lt (by omega)]; rfl⟩⟩
          case round =>
            obtain ⟨rfl, ⟨j, hj, rfl, rfl⟩ | ⟨rfl, rfl⟩⟩ := hrel
            · have hc := HI.out.1.cell j hj
              rw [HNB.out j hj] at hc
              have HX := Lib.hid (next_num N j)
              have hle : N / 2 ^ j ≤ N := Nat.div_le_self _ _
              have hle2 : 2 * (N / 2 ^ (j + 1)) ≤ N / 2 ^ j := by have := HX.out; omega
              have hM1 : N / 2 ^ (j + 1) < 32768 := by omega
              have HA2 := Lib.hid hle2; have HA3 := Lib.hid hle
              clear hle hle2
              generalize N / 2 ^ (j + 1) = M at *
              generalize hb : N.testBit j = bt at *
              clear hb
              cases bt with
              | false =>
                have hc' : wO.cell? ⟨g, j, none⟩ = some (.bool true) := hc
                clear hc
                go_wp2
                go_roundw
                case rel => refine last_rel N M j 0 hj HX.out rfl _ ?_; omega
                case measure => simp [intOf]
              | true =>
                have hc' : wO.cell? ⟨g, j, none⟩ = some (.bool false) := hc
                clear hc
                go_wp2
                go_roundw
                case rel => refine last_rel N M j 1 hj HX.out rfl _ ?_; omega
                case measure => simp [intOf]
            · have HF : Hid (Below w.heap.size w wO) := by have := HI.out.2; rw [← HG.out] at this; exact this
              go_wp2
              go_ret
              exact ⟨by rw [HZ.out]; rfl, HF.out⟩

end Go.Proofs.Ythpfhcelmddjlaa
