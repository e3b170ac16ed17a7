/- Contract: the document's Rise. -/
import Derived.Test.YtagkgejdammflaaGreatRMath
import Derived.Test.YtagkgejdammflaaGreatLHead
namespace Go.Proofs.YtagkgejdammflaaGreat
open Go.RowKit Fl
set_option maxRecDepth 100000

set_option maxHeartbeats 8000000 in
theorem refRise_any (w : World) (v : Value) (xs : List Int) (h : Rd w w.heap.size v (ivals xs)) (hl : xs.length ≤ 1000) : Calls Tryz.prog 16 #[v] w (RetOwn w.heap.size (riseL xs) w) := by
  obtain ⟨A, c, rfl, -, hx⟩ := h
  have hvl : (ivals xs).length = xs.length := by simp [ivals]
  rw [hvl] at hx ⊢
  have HX := Lib.hid hx
  clear hx hvl
  obtain ⟨B0, hB0⟩ : ∃ n, n = w.heap.size := ⟨_, rfl⟩
  rw [← hB0] at HX ⊢
  have HB0 := Lib.hid hB0
  have hB1 : B0 ≤ w.heap.size := by omega
  clear hB0
  have hrl := riseL_le xs
  obtain ⟨i3, hi3, hz30, hz31, hz32⟩ := info_parts Tryz.info3n
  go_enter Tryz.func16, Tryz.ntmps16
  go_wp2_with fail
  go_loopw [3] (fun t wr => ∃ (m : Nat) (out : List Int), m ≤ (riseL xs).length ∧ Hid (out.length = m) ∧ Hid (out = (riseL xs).take m ∧ wr.ownsRow B0 3 1 t m (ivals out) ∧ Below B0 w wr)) (fun t _ => (riseL xs).length - (match t with | .slice _ n _ => n | _ => 0))
  case atStart => exact ⟨0, [], Nat.zero_le _, rfl, rfl, World.ownsRow_nil _ _ _ _, Below.refl _ _⟩
  case round =>
    obtain ⟨m, out, hm, HOL, HK⟩ := hrel
    obtain ⟨Ao, co, hvo⟩ := own_slice HK.out.2.1
    subst hvo
    have HK0 : Hid (wr.ownsRow B0 3 1 (.slice Ao m co) m (ivals out) ∧ Below B0 w wr) := ⟨HK.out.2.1, HK.out.2.2⟩
    have HOE := Lib.hid HK.out.1
    obtain ⟨wK, hwK⟩ : ∃ x, x = wr := ⟨_, rfl⟩
    subst hwK
    clear HK
    go_wp2_with fail
    go_loopw [4, 5] (fun b k wr => ∃ (i : Nat) (bo : Option Nat), i ≤ xs.length ∧ k = .int .i64 i ∧ b = .int .i64 (idxI bo) ∧ Hid (Best xs (riseL xs) m i bo) ∧ Hid (wr.ownsRow B0 3 1 (.slice Ao m co) m (ivals out) ∧ Below B0 w wr)) (fun _ k _ => xs.length - (intOf k).toNat)
    case atStart => exact ⟨0, none, Nat.zero_le _, rfl, rfl, Best.start _ _ _, HK0⟩
    case round =>
      obtain ⟨i, bo, hi, rfl, rfl, HB, HJ⟩ := hrel
      by_cases hlt : i < xs.length
      · obtain ⟨bx, ox, hA, hbx, hcc⟩ := HX.out (by simpa [ivals] using (by omega : 0 < xs.length))
        have HXC : Hid (∀ j (hj : j < xs.length), w.cell? ⟨bx, ox + j, none⟩ = some (.int .i64 xs[j])) := fun j hj => hcc j _ (by simp [ivals, hj])
        have HBX := Lib.hid hbx
        obtain ⟨x, hxe⟩ : ∃ x, xs[i] = x := ⟨_, rfl⟩
        have q0 : wr.cell? ⟨bx, ox + i, none⟩ = some (.int .i64 x) := (HJ.out.2.cell (p := ⟨bx, ox + i, none⟩) hbx).trans (by rw [← hxe]; exact HXC.out i hlt)
        have HXE := Lib.hid hxe
        clear hcc hbx hxe
        subst hA
        rcases Nat.eq_zero_or_pos m with hm0 | hm0
        · have HYB : Hid (beyond (riseL xs) m xs[i]) := Or.inl hm0
          have hol1 : (m : Int) = 0 := by omega
          have hd1 : ((m : Int) == 0) = true := by rw [hol1]; rfl
          clear hm0 hol1
          cases bo with
          | none =>
            simp only [idxI] at *
            have HBN : Hid (Best xs (riseL xs) m (i + 1) (some i)) := HB.out.take0 hlt HYB.out
            go_upto_region 6 with (fail)
            go_quiet (fail)
            have HN6 : Hid (∀ n, (wr.drewN n).ownsRow B0 3 1 (.slice Ao m co) m (ivals out) ∧ Below B0 w (wr.drewN n)) := fun n => ⟨HJ.out.1, Below.drewN HJ.out.2 n⟩
            go_wp2_with fail
            go_roundw
            case rel => exact ⟨i + 1, some i, by omega, by go_num, rfl, HBN, HN6.out _⟩
            case measure => simp [intOf]; omega
          | some b =>
            obtain ⟨y, HYE, q1⟩ : ∃ y, Hid (xs.getD b 0 = y) ∧ w.cell? ⟨bx, ox + b, none⟩ = some (.int .i64 y) := by
              obtain ⟨hb, _⟩ := HB.out
              exact ⟨_, rfl, by have := HXC.out b hb; simpa [List.getD, hb] using this⟩
            have q2 : wr.cell? ⟨bx, ox + b, none⟩ = some (.int .i64 y) := (HJ.out.2.cell (p := ⟨bx, ox + b, none⟩) HBX.out).trans q1
            have hbl : b < xs.length := by obtain ⟨hb, _⟩ := HB.out; exact hb
            have hbn : ¬ (b : Int) < 0 := by omega
            have hd5 : decide ((b : Int) < 0) = false := decide_eq_false hbn
            clear q1
            simp only [idxI] at *
            by_cases hlb : x < y
            · have hd3 : decide (x < y) = true := decide_eq_true hlb
              have HBN : Hid (Best xs (riseL xs) m (i + 1) (some i)) := HB.out.take1 hlt HYB.out (by rw [HXE.out, HYE.out]; exact hlb)
              go_upto_region 6 with (fail)
              go_quiet (fail)
              have HN6 : Hid (∀ n, (wr.drewN n).ownsRow B0 3 1 (.slice Ao m co) m (ivals out) ∧ Below B0 w (wr.drewN n)) := fun n => ⟨HJ.out.1, Below.drewN HJ.out.2 n⟩
              go_wp2_with fail
              go_roundw
              case rel => exact ⟨i + 1, some i, by omega, by go_num, rfl, HBN, HN6.out _⟩
              case measure => simp [intOf]; omega
            · have hd3 : decide (x < y) = false := decide_eq_false hlb
              have HBN : Hid (Best xs (riseL xs) m (i + 1) (some b)) := HB.out.keep hlt (by rw [HXE.out, HYE.out]; exact hlb)
              go_upto_region 6 with (fail)
              go_quiet (fail)
              have HN6 : Hid (∀ n, (wr.drewN n).ownsRow B0 3 1 (.slice Ao m co) m (ivals out) ∧ Below B0 w (wr.drewN n)) := fun n => ⟨HJ.out.1, Below.drewN HJ.out.2 n⟩
              go_wp2_with fail
              go_roundw
              case rel => exact ⟨i + 1, some b, by omega, by go_num, rfl, HBN, HN6.out _⟩
              case measure => simp [intOf]; omega
        · have hol1 : ¬ (m : Int) = 0 := by omega
          have hd1 : ((m : Int) == 0) = false := by rw [beq_eq_false_iff_ne]; exact hol1
          obtain ⟨r, hre⟩ : ∃ r, out.getD (m - 1) 0 = r := ⟨_, rfl⟩
          have HRE : Hid ((riseL xs).getD (m - 1) 0 = r) := by
            show _ = _
            rw [← hre, HOE.out]
            simp [List.getD, show m - 1 < m by omega]
          obtain ⟨br, or, hAr, -, u0⟩ := (Rd.of_own HJ.out.1).at (i := m - 1) (u := .int .i64 r) (by rw [← hre]; simp [ivals, List.getD, show m - 1 < out.length by have := HOL.out; omega])
          subst hAr
          obtain ⟨mm, HMM⟩ : ∃ mm, Hid (m = mm + 1) := ⟨m - 1, by show _ = _; omega⟩
          have hoi : (m : Int) - 1 = (mm : Int) := by have := HMM.out; omega
          have hml : mm < m := by have := HMM.out; omega
          have hwm : IntKind.i64.wrap ((m : Int) - 1) = (mm : Int) := by rw [hoi]; exact IntWalk.i64_in _ (by omega)
          rw [show m - 1 = mm by have := HMM.out; omega] at u0
          clear hre hol1
          by_cases hgt : r < x
          · have hd2 : decide (r < x) = true := decide_eq_true hgt
            have HYB : Hid (beyond (riseL xs) m xs[i]) := Or.inr (by rw [HRE.out, HXE.out]; exact hgt)
            cases bo with
            | none =>
              simp only [idxI] at *
              have HBN : Hid (Best xs (riseL xs) m (i + 1) (some i)) := HB.out.take0 hlt HYB.out
              go_upto_region 6 with (fail)
              go_quiet (fail)
              have HN6 : Hid (∀ n, (wr.drewN n).ownsRow B0 3 1 (.slice (some ⟨br, or, none⟩) m co) m (ivals out) ∧ Below B0 w (wr.drewN n)) := fun n => ⟨HJ.out.1, Below.drewN HJ.out.2 n⟩
              go_wp2_with fail
              go_roundw
              case rel => exact ⟨i + 1, some i, by omega, by go_num, rfl, HBN, HN6.out _⟩
              case measure => simp [intOf]; omega
            | some b =>
              obtain ⟨y, HYE, q1⟩ : ∃ y, Hid (xs.getD b 0 = y) ∧ w.cell? ⟨bx, ox + b, none⟩ = some (.int .i64 y) := by
                obtain ⟨hb, _⟩ := HB.out
                exact ⟨_, rfl, by have := HXC.out b hb; simpa [List.getD, hb] using this⟩
              have q2 : wr.cell? ⟨bx, ox + b, none⟩ = some (.int .i64 y) := (HJ.out.2.cell (p := ⟨bx, ox + b, none⟩) HBX.out).trans q1
              have hbl : b < xs.length := by obtain ⟨hb, _⟩ := HB.out; exact hb
              have hbn : ¬ (b : Int) < 0 := by omega
              have hd5 : decide ((b : Int) < 0) = false := decide_eq_false hbn
              clear q1
              simp only [idxI] at *
              by_cases hlb : x < y
              · have hd3 : decide (x < y) = true := decide_eq_true hlb
                have HBN : Hid (Best xs (riseL xs) m (i + 1) (some i)) := HB.out.take1 hlt HYB.out (by rw [HXE.out, HYE.out]; exact hlb)
                go_upto_region 6 with (fail)
                go_quiet (fail)
                have HN6 : Hid (∀ n, (wr.drewN n).ownsRow B0 3 1 (.slice (some ⟨br, or, none⟩) m co) m (ivals out) ∧ Below B0 w (wr.drewN n)) := fun n => ⟨HJ.out.1, Below.drewN HJ.out.2 n⟩
                go_wp2_with fail
                go_roundw
                case rel => exact ⟨i + 1, some i, by omega, by go_num, rfl, HBN, HN6.out _⟩
                case measure => simp [intOf]; omega
              · have hd3 : decide (x < y) = false := decide_eq_false hlb
                have HBN : Hid (Best xs (riseL xs) m (i + 1) (some b)) := HB.out.keep hlt (by rw [HXE.out, HYE.out]; exact hlb)
                go_upto_region 6 with (fail)
                go_quiet (fail)
                have HN6 : Hid (∀ n, (wr.drewN n).ownsRow B0 3 1 (.slice (some ⟨br, or, none⟩) m co) m (ivals out) ∧ Below B0 w (wr.drewN n)) := fun n => ⟨HJ.out.1, Below.drewN HJ.out.2 n⟩
                go_wp2_with fail
                go_roundw
                case rel => exact ⟨i + 1, some b, by omega, by go_num, rfl, HBN, HN6.out _⟩
                case measure => simp [intOf]; omega
          · have hd2 : decide (r < x) = false := decide_eq_false hgt
            have HNB : Hid (¬ beyond (riseL xs) m xs[i]) := fun hb => by
              rcases hb with hb | hb
              · have := HMM.out; omega
              · rw [HRE.out, HXE.out] at hb; exact hgt hb
            cases bo with
            | none =>
              simp only [idxI] at *
              have HBN : Hid (Best xs (riseL xs) m (i + 1) none) := HB.out.skip hlt HNB.out
              go_upto_region 6 with (fail)
              go_quiet (fail)
              have HN6 : Hid (∀ n, (wr.drewN n).ownsRow B0 3 1 (.slice (some ⟨br, or, none⟩) m co) m (ivals out) ∧ Below B0 w (wr.drewN n)) := fun n => ⟨HJ.out.1, Below.drewN HJ.out.2 n⟩
              go_wp2_with fail
              go_roundw
              case rel => exact ⟨i + 1, none, by omega, by go_num, rfl, HBN, HN6.out _⟩
              case measure => simp [intOf]; omega
            | some b =>
              obtain ⟨y, HYE, q1⟩ : ∃ y, Hid (xs.getD b 0 = y) ∧ w.cell? ⟨bx, ox + b, none⟩ = some (.int .i64 y) := by
                obtain ⟨hb, _⟩ := HB.out
                exact ⟨_, rfl, by have := HXC.out b hb; simpa [List.getD, hb] using this⟩
              have q2 : wr.cell? ⟨bx, ox + b, none⟩ = some (.int .i64 y) := (HJ.out.2.cell (p := ⟨bx, ox + b, none⟩) HBX.out).trans q1
              have hbl : b < xs.length := by obtain ⟨hb, _⟩ := HB.out; exact hb
              have hbn : ¬ (b : Int) < 0 := by omega
              have hd5 : decide ((b : Int) < 0) = false := decide_eq_false hbn
              clear q1
              simp only [idxI] at *
              have HBN : Hid (Best xs (riseL xs) m (i + 1) (some b)) := HB.out.skip hlt HNB.out
              go_upto_region 6 with (fail)
              go_quiet (fail)
              have HN6 : Hid (∀ n, (wr.drewN n).ownsRow B0 3 1 (.slice (some ⟨br, or, none⟩) m co) m (ivals out) ∧ Below B0 w (wr.drewN n)) := fun n => ⟨HJ.out.1, Below.drewN HJ.out.2 n⟩
              go_wp2_with fail
              go_roundw
              case rel => exact ⟨i + 1, some b, by omega, by go_num, rfl, HBN, HN6.out _⟩
              case measure => simp [intOf]; omega
      · have HIE : Hid (Best xs (riseL xs) m xs.length bo) := by have e : i = xs.length := by omega
                                                                 rw [← e]; exact HB.out
        cases bo with
        | none =>
          have HRS : Hid (out = riseL xs) := by show _ = _; rw [HOE.out]; exact best_none HIE.out
          simp only [idxI] at *
          go_wp2_with fail
          go_ret
          rw [← HRS.out]
          exact ⟨_, rfl, by rw [HOL.out]; exact HJ.out.1, HJ.out.2⟩
        | some b =>
          have HBS := Lib.hid (best_some hm HIE.out)
          obtain ⟨hbl, _⟩ := id HIE.out
          obtain ⟨bx, ox, hA, hbx, hcc⟩ := HX.out (by simpa [ivals] using (by omega : 0 < xs.length))
          have q0 : wr.cell? ⟨bx, ox + b, none⟩ = some (.int .i64 (xs.getD b 0)) := (HJ.out.2.cell (p := ⟨bx, ox + b, none⟩) hbx).trans (hcc b _ (by simp [ivals, List.getD, hbl]))
          generalize xs.getD b 0 = y at *
          subst hA
          simp only [idxI] at *
          have hbn : ¬ (b : Int) < 0 := by omega
          have HSN : Hid (ivals out ++ [.int .i64 y] = ivals (out ++ [y]) ∧ (out ++ [y]).length = m + 1) := ⟨ivals_snoc' _ _, by have := HOL.out; simp; omega⟩
          clear hcc
          go_wp2_with (at_builtin; refine wpList_append_own _ rfl (.tmp 47) (.tmp 52) 42 rfl B0 3 i3 (.int .i64 0) 1 8 Tryz.underlying42 hi3 hz30 hz31 hz32 rfl (by decide) _ _ _ rfl (HJ.out.1.alloc _) ⟨wr.heap.size, 0, none⟩ 1 1 [.int .i64 y] rfl rfl (one_new wr 3 _) (one_cell rfl) (by unfold maxLen; omega) (by omega) (by have := HJ.out.2.size; simp; omega) ?_)
          intro v7 w7 hown7 hgrow7 _
          rw [HSN.out.1] at hown7
          have HBX : Hid (out ++ [y] = (riseL xs).take (m + 1)) := by show _ = _; rw [← HBS.out.2, ← HOE.out]
          have hba : Below B0 w (wr.alloc (.cells #[.int .i64 y] 3)) := HJ.out.2.alloc (by have := HJ.out.2.size; omega) _
          have HNX : Hid (out ++ [y] = (riseL xs).take (m + 1) ∧ w7.ownsRow B0 3 1 v7 (m + 1) (ivals (out ++ [y])) ∧ Below B0 w w7) := ⟨HBX.out, hown7, hba.grown hgrow7 (by have := hba.size; omega) (fun kk hk => (HJ.out.1.lt kk hk).1)⟩
          obtain ⟨A8, c8, hv8⟩ := own_slice hown7
          subst hv8
          have hlm := HBS.out.1
          clear hown7 hgrow7 hba q0
          go_wp2_with fail
          go_roundw
          case rel => exact ⟨m + 1, out ++ [y], hlm, HSN.out.2, HNX⟩
          case measure => simp; omega

end Go.Proofs.YtagkgejdammflaaGreat
