/- Contract of the document's Of: the bits of bytes. -/
import Derived.Test.YthpfhcelmddjlaaRefB
namespace Go.Proofs.Ythpfhcelmddjlaa
open Go.RowKit
set_option maxRecDepth 100000

set_option maxHeartbeats 2000000 in
theorem bitsOf_any (w : World) (v : Value) (q : List Nat) (h : Rd w w.heap.size v (bvals q)) (hq : q.length ≤ 4000) : Calls Try.prog 73 #[v] w (RetBits (upto q q.length) w) := by
  obtain ⟨i0, hi, hz0, hz1, hz2⟩ := info_parts Try.info4
  obtain ⟨A, c, rfl, -, hx⟩ := h
  rw [bvals_length] at *
  have HX := Lib.hid hx; clear hx
  go_enter Try.func73, Try.ntmps73
  go_wp2
  go_loopw [3, 4] (fun p k wr => ∃ i : Nat, i ≤ q.length ∧ k = .int .i64 i ∧ Hid (wr.ownsRow w.heap.size 4 1 p (8 * i) (cvals (upto q i)) ∧ Below w.heap.size w wr)) (fun _ k _ => q.length - (intOf k).toNat)
  case atStart => exact ⟨0, Nat.zero_le _, rfl, by simpa [upto, cvals] using World.ownsRow_nil _ _ _ _, Below.refl _ _⟩
  case round =>
    obtain ⟨i, hi', rfl, HI⟩ := hrel
    by_cases hlt : i < q.length
    · obtain ⟨b, o, rfl, hbl, hc⟩ := HX.out (by omega)
      have hcell := hc i _ (bvals_get q i hlt)
      have hsuc := upto_succ q i
      rw [show q.getD i 0 = q[i] from by simp [List.getD, hlt]] at hsuc
      generalize q[i] = y at *
      have HSUC := Lib.hid hsuc; have HCELL := Lib.hid hcell
      clear hsuc hc hcell
      obtain ⟨wL, hwL⟩ : ∃ x, x = wr := ⟨_, rfl⟩
      subst hwL
      go_wp2
      go_loopw [3, 5] (fun p k wr => ∃ t : Nat, t ≤ 8 ∧ k = .int .i64 (7 - (t : Int)) ∧ Hid (wr.ownsRow w.heap.size 4 1 p (8 * i + t) (cvals (upto q i ++ (numBits y 8).take t)) ∧ Below w.heap.size w wr)) (fun _ k _ => (intOf k + 1).toNat)
      case atStart => exact ⟨0, by omega, by go_num, by simpa using HI.out.1, HI.out.2⟩
      case round =>
        obtain ⟨t, ht, rfl, HT⟩ := hrel
        by_cases ht8 : t < 8
        · have hbit := shr_bit_t y (7 - t)
          have hk0 : 0 ≤ 7 - (t : Int) := by omega
          have hk1 : (7 - (t : Int)).toNat = 7 - t := by omega
          have hap : cvals (upto q i ++ (numBits y 8).take t) ++ [.bool (y.testBit (7 - t))] = cvals (upto q i ++ (numBits y 8).take (t + 1)) := by
            rw [numBits_take y 8 t ht8, show 8 - 1 - t = 7 - t from by omega]; simp [cvals]
          have hcell2 : wr.cell? ⟨b, o + i, none⟩ = some (.int .u8 (y : Int)) := (HT.out.2.cell (p := ⟨b, o + i, none⟩) hbl).trans HCELL.out
          have HAP := Lib.hid hap; clear hap
          go_wp2_with (at_builtin; refine wpList_append_own _ rfl (.tmp 16) (.tmp 25) 78 rfl w.heap.size 4 i0 (.bool false) 1 1 Try.underlying78 hi hz0 hz1 hz2 rfl (by decide) _ _ _ rfl (HT.out.1.alloc _) ⟨wr.heap.size, 0, none⟩ 1 1 [.bool (y.testBit (7 - t))] rfl rfl (one_new wr 4 _) (one_cell rfl) (by unfold maxLen; omega) (by omega) (by have := HT.out.2.size; simp; omega) ?_)
          intro v2 w2 hown2 hgrow2 _
          rw [HAP.out] at hown2
          have hb2 : Below w.heap.size w w2 := (HT.out.2.alloc HT.out.2.size _).grown hgrow2 (by have := HT.out.2.size; simp; omega) (fun k hk => (HT.out.1.lt k hk).1)
          have H2 : Hid (w2.ownsRow w.heap.size 4 1 v2 (8 * i + (t + 1)) (cvals (upto q i ++ (numBits y 8).take (t + 1))) ∧ Below w.heap.size w w2) := ⟨by rw [show 8 * i + (t + 1) = 8 * i + t + 1 from by omega]; exact hown2, hb2⟩
          clear hown2 hgrow2 hb2 hbit hcell2 hk1
          go_wp2
          go_roundw
          case rel => exact ⟨t + 1, by omega, by go_num, H2⟩
          case measure => simp [intOf]; omega
        · obtain rfl : t = 8 := by omega
          have hf : (numBits y 8).take 8 = numBits y 8 := List.take_of_length_le (by rw [numBits_length]; omega)
          have H3 : Hid (wr.ownsRow w.heap.size 4 1 u3 (8 * (i + 1)) (cvals (upto q (i + 1))) ∧ Below w.heap.size w wr) := by
            have h := HT.out
            rw [hf, ← HSUC.out] at h
            exact ⟨by rw [show 8 * (i + 1) = 8 * i + 8 from by omega]; exact h.1, h.2⟩
          clear hf
          go_wp2
          go_roundw
          case rel => exact ⟨i + 1, by omega, by go_num, H3⟩
          case measure => simp [intOf]; omega
    · obtain rfl : i = q.length := by omega
      go_wp2
      go_ret
      exact ⟨_, rfl, by rw [upto_length]; exact HI.out.1, HI.out.2⟩

end Go.Proofs.Ythpfhcelmddjlaa
