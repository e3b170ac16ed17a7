/- Contract of the document's own Bytes: with noughts up to a whole byte. -/
import Derived.Test.YthpfhcelmddjlaaRef
namespace Go.Proofs.Ythpfhcelmddjlaa
open Go.RowKit
set_option maxRecDepth 100000

/-- The number of 'j' bits from place 'i' on. -/
def hor (l : List Bool) (i : Nat) : Nat → Nat
  | 0 => 0
  | j + 1 => 2 * hor l i j + (get l (i + j)).toNat

theorem hor_lt (l : List Bool) (i j : Nat) : hor l i j < 2 ^ j := by
  induction j with
  | zero => simp [hor]
  | succ j ih =>
    have := toNat_le (get l (i + j))
    rw [hor, Nat.pow_succ]; omega

theorem hor_byte (l : List Bool) (m : Nat) : hor l (8 * m) 8 = byteAt l m := by
  simp only [hor, byteAt, Nat.add_zero]
  omega

set_option maxHeartbeats 2000000 in
theorem refBytes_any (w : World) (v : Value) (l : List Bool) (h : Rd w w.heap.size v (cvals l)) (hl : l.length ≤ 900000) : Calls Try.prog 42 #[v] w (RetBytes (pack l) w) := by
  obtain ⟨i0, hi, hz0, hz1, hz2⟩ := info_parts Try.info5
  obtain ⟨A, c, rfl, -, hx⟩ := h
  rw [cvals_length] at *
  have HX := Lib.hid hx; clear hx
  go_enter Try.func42, Try.ntmps42
  go_wp2
  go_loopw [3, 4] (fun p i wr => ∃ m : Nat, m ≤ nb l.length ∧ i = .int .i64 ((8 * m : Nat) : Int) ∧ Hid (wr.ownsRow w.heap.size 5 1 p m (bvals (packTo l m)) ∧ Below w.heap.size w wr)) (fun _ i _ => l.length + 8 - (intOf i).toNat)
  case atStart => exact ⟨0, Nat.zero_le _, rfl, World.ownsRow_nil _ _ _ _, Below.refl _ _⟩
  case round =>
    obtain ⟨m, hm, rfl, HI⟩ := hrel
    by_cases hlt : 8 * m < l.length
    · go_wp2
      go_loop [5, 6] (fun n k => ∃ j : Nat, j ≤ 8 ∧ k = .int .i64 ((8 * m + j : Nat) : Int) ∧ n = .int .i64 (hor l (8 * m) j : Int)) (fun _ k => 8 * m + 8 - (intOf k).toNat)
      case atStart => exact ⟨0, by omega, rfl, rfl⟩
      case round =>
        obtain ⟨j, hj, rfl, rfl⟩ := hrel
        have hb := hor_lt l (8 * m) j
        have hb2 : 2 ^ j ≤ 2 ^ 8 := Nat.pow_le_pow_right (by decide) hj
        have hb3 : hor l (8 * m) j < 256 := by omega
        clear hb hb2
        by_cases hj8 : j < 8
        · have hs : hor l (8 * m) (j + 1) = 2 * hor l (8 * m) j + (get l (8 * m + j)).toNat := rfl
          have HS := Lib.hid hs; clear hs
          generalize hor l (8 * m) j = n at *
          by_cases hin : 8 * m + j < l.length
          · obtain ⟨b, o, rfl, hbl, hc⟩ := HX.out (by omega)
            have hcell : wr.cell? ⟨b, o + (8 * m + j), none⟩ = some (.bool l[8 * m + j]) := (HI.out.2.cell (p := ⟨b, o + (8 * m + j), none⟩) hbl).trans (hc _ _ (cvals_get l _ hin))
            have hgt : get l (8 * m + j) = l[8 * m + j] := by unfold get; simp [List.getD, hin]
            rw [hgt] at HS
            clear hc hgt
            generalize l[8 * m + j] = bt at hcell HS
            cases bt
            all_goals
              go_wp2
              go_round
              case rel => exact ⟨j + 1, by omega, by go_num, by rw [HS.out]; go_num⟩
              case measure => simp [intOf]; omega
          · have hgt : get l (8 * m + j) = false := get_past (by omega)
            rw [hgt] at HS
            clear hgt
            go_wp2
            go_round
            case rel => exact ⟨j + 1, by omega, by go_num, by rw [HS.out]; go_num⟩
            case measure => simp [intOf]; omega
        · obtain rfl : j = 8 := by omega
          rw [hor_byte] at *
          have hap : bvals (packTo l m) ++ [.int .u8 (byteAt l m : Int)] = bvals (packTo l (m + 1)) := by
            unfold bvals packTo
            rw [List.range_succ, List.map_append, List.map_append]
            rfl
          have HAP := Lib.hid hap; clear hap
          have hmn : m + 1 ≤ nb l.length := by unfold nb; omega
          have m0 : m ≤ 900000 := by omega
          generalize hby : byteAt l m = y at *
          clear hby
          go_wp2_with (at_builtin; refine wpList_append_own _ rfl (.tmp 34) (.tmp 37) 35 rfl w.heap.size 5 i0 (.int .u8 0) 1 1 Try.underlying35 hi hz0 hz1 hz2 rfl (by decide) _ _ _ rfl (HI.out.1.alloc _) ⟨wr.heap.size, 0, none⟩ 1 1 [.int .u8 (y : Int)] rfl rfl (one_new wr 5 _) (one_cell rfl) (by unfold maxLen; omega) (by omega) (by have := HI.out.2.size; simp; omega) ?_)
          intro v2 w2 hown2 hgrow2 _
          rw [HAP.out] at hown2
          have hb2 : Below w.heap.size w w2 := (HI.out.2.alloc HI.out.2.size _).grown hgrow2 (by have := HI.out.2.size; simp; omega) (fun k hk => (HI.out.1.lt k hk).1)
          have H2 : Hid (w2.ownsRow w.heap.size 5 1 v2 (m + 1) (bvals (packTo l (m + 1))) ∧ Below w.heap.size w w2) := ⟨hown2, hb2⟩
          clear hown2 hgrow2 hb2
          go_wp2
          go_roundw
          case rel => exact ⟨m + 1, hmn, by go_num, H2⟩
          case measure => simp [intOf]; omega
    · obtain rfl : m = nb l.length := by unfold nb at *; omega
      have hpl : (pack l).length = nb l.length := pack_length l
      have HPL := Lib.hid hpl; clear hpl
      go_wp2
      go_ret
      exact ⟨_, rfl, by rw [HPL.out]; exact HI.out.1, HI.out.2⟩

end Go.Proofs.Ythpfhcelmddjlaa
