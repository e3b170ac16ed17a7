/- The law StateKinds. -/
import Derived.Test.YtblbbdkpebacbaaDoorSe
namespace Go.Proofs.YtblbbdkpebacbaaDoor
open Go.RowKit Fl
set_option maxRecDepth 100000

def seenTo (t : Nat) : List Int := (List.range 13).map fun n => (((List.range t).filter fun s => kindTab.getD s 0 == n).length : Int)
theorem seenTo_len (t : Nat) : (seenTo t).length = 13 := by simp [seenTo]
theorem seen_steps : ∀ i k : Fin 4, (seenTo (4 * i.val + k.val)).set (kindTab.getD (4 * i.val + k.val) 0) ((seenTo (4 * i.val + k.val)).getD (kindTab.getD (4 * i.val + k.val) 0) 0 + 1) = seenTo (4 * i.val + (k.val + 1)) := by decide +kernel
theorem kindO_tab (i k : Nat) (hi : i < 4) (hk : k < 4) : kindO i k = kindTab.getD (4 * i + k) 0 := by unfold kindO; rw [if_neg (by omega)]
theorem seen_step (i k : Nat) (hi : i < 4) (hk : k < 4) (n : Nat) (hn : kindO i k = n) : (seenTo (4 * i + k)).set n ((seenTo (4 * i + k)).getD n 0 + 1) = seenTo (4 * i + (k + 1)) := by
  rw [kindO_tab i k hi hk] at hn; subst hn; exact seen_steps ⟨i, hi⟩ ⟨k, hk⟩
theorem seen_small (i k : Nat) (hi : i < 4) (hk : k < 4) (n : Nat) : 0 ≤ (seenTo (4 * i + k)).getD n 0 ∧ (seenTo (4 * i + k)).getD n 0 ≤ 100 := by
  by_cases h : n < 13
  · have key : ∀ (t : Fin 17) (n : Fin 13), 0 ≤ (seenTo t.val).getD n.val 0 ∧ (seenTo t.val).getD n.val 0 ≤ 100 := by decide +kernel
    exact key ⟨4 * i + k, by omega⟩ ⟨n, h⟩
  · have := seenTo_len (4 * i + k)
    rw [List.getD_eq_getElem?_getD, List.getElem?_eq_none (by omega)]; simp
theorem seen_one : ∀ n : Fin 13, 0 < n.val → (seenTo 16).getD n.val 0 = 1 := by decide +kernel

set_option maxHeartbeats 16000000 in
theorem lawKinds (w : World) (a b : Nat) (ha : a < 256) (hb : b < 256) (hkd : KD w) : Calls Tryd.prog 5 #[.int .u8 (a : Int), .int .u8 (b : Int)] w (RetL true w) := by
  have HKD := Lib.hid hkd
  have hba := (Below.refl w.heap.size w).alloc (Nat.le_refl _) (.cells #[.int .i64 0, .int .i64 0, .int .i64 0, .int .i64 0, .int .i64 0, .int .i64 0, .int .i64 0, .int .i64 0, .int .i64 0, .int .i64 0, .int .i64 0, .int .i64 0, .int .i64 0] 57)
  have hrw := Row.new w 57 #[.int .i64 0, .int .i64 0, .int .i64 0, .int .i64 0, .int .i64 0, .int .i64 0, .int .i64 0, .int .i64 0, .int .i64 0, .int .i64 0, .int .i64 0, .int .i64 0, .int .i64 0]
  have hz0 : seenTo 0 = [0, 0, 0, 0, 0, 0, 0, 0, 0, 0, 0, 0, 0] := by decide +kernel
  have hz : (ivals (seenTo 0)).toArray = #[.int .i64 0, .int .i64 0, .int .i64 0, .int .i64 0, .int .i64 0, .int .i64 0, .int .i64 0, .int .i64 0, .int .i64 0, .int .i64 0, .int .i64 0, .int .i64 0, .int .i64 0] := by rw [hz0]; rfl
  rw [← hz] at hba hrw
  have HB0 := Lib.hid hba
  have HR0 := Lib.hid hrw
  clear hkd hba hrw
  go_enter Tryd.func5, Tryd.ntmps5
  go_upto_region 2 with (fail)
  rw [← hz]
  obtain ⟨n0, hn0⟩ : ∃ n, n = w.heap.size := ⟨_, rfl⟩
  have HN0 : Hid (w.heap.size ≤ n0) := by show _ ≤ _; omega
  rw [← hn0] at HR0 ⊢
  clear hz hz0 hn0
  generalize w.alloc (.cells (ivals (seenTo 0)).toArray 57) = W0 at *
  go_wp2_with fail
  go_loopw [6] (fun v wr => ∃ i : Nat, i ≤ 4 ∧ v = .int .u8 i ∧ Hid (Below w.heap.size w wr ∧ Row wr n0 57 (ivals (seenTo (4 * i))).toArray)) (fun v _ => 4 - (intOf v).toNat)
  case atStart => exact ⟨0, by omega, rfl, HB0.out, HR0.out⟩
  case round =>
    obtain ⟨i, hi, rfl, HJ⟩ := hrel
    clear HB0 HR0
    by_cases hi4 : i < 4
    · have hli : (i : Int) < 4 := by omega
      go_wp2_with fail
      go_loopw [7] (fun v wq => ∃ k : Nat, k ≤ 4 ∧ v = .int .u8 k ∧ Hid (Below w.heap.size w wq ∧ Row wq n0 57 (ivals (seenTo (4 * i + k))).toArray)) (fun v _ => 4 - (intOf v).toNat)
      case atStart => exact ⟨0, by omega, rfl, HJ.out.1, HJ.out.2⟩
      case round =>
        obtain ⟨k, hk, rfl, HK⟩ := hrel
        clear HJ
        by_cases hk4 : k < 4
        · have hlk : (k : Int) < 4 := by omega
          have hcall := kind_any wr i k (by omega) (by omega) (HKD.out.up HK.out.1)
          obtain ⟨n, hn⟩ : ∃ n, kindO i k = n := ⟨_, rfl⟩
          have hn12' : n ≤ 12 := by rw [← hn]; exact kindO_le i k
          have hzero := kindO_zero i k (by omega) (by omega)
          rw [hn] at hcall hzero
          have HKN := Lib.hid hn
          clear hn
          have HST := HK.out.2.set n (.int .i64 ((seenTo (4 * i + k)).getD n 0 + 1))
          rw [ivals_set, seen_step i k hi4 hk4 n HKN.out] at HST
          have HNX : Hid (Below w.heap.size w (wr.setCell ⟨n0, n, none⟩ (.int .i64 ((seenTo (4 * i + k)).getD n 0 + 1))) ∧ Row (wr.setCell ⟨n0, n, none⟩ (.int .i64 ((seenTo (4 * i + k)).getD n 0 + 1))) n0 57 (ivals (seenTo (4 * i + (k + 1)))).toArray) := ⟨HK.out.1.setCell (p := ⟨n0, n, none⟩) HN0.out _, HST⟩
          have c1 : wr.cell? ⟨n0, n, none⟩ = some (.int .i64 ((seenTo (4 * i + k)).getD n 0)) := by
            rw [HK.out.2.cell n]
            have hl := seenTo_len (4 * i + k)
            simp [ivals, List.getD, show n < (seenTo (4 * i + k)).length by omega]
          have z1 := HK.out.2.frozen n
          have hvb := seen_small i k hi4 hk4 n
          have hw1 : IntKind.i64.wrap ((seenTo (4 * i + k)).getD n 0 + 1) = (seenTo (4 * i + k)).getD n 0 + 1 := IntWalk.i64_in _ (by omega)
          clear HST HK
          generalize (seenTo (4 * i + k)).getD n 0 = v at *
          have hn13 : (n : Int) < 13 := by omega
          have hn12 : ¬ (n : Int) > 12 := by omega
          go_wp2_with fail
          refine hcall.mono ?_; rintro e wz ⟨rfl, hwz⟩
          subst hwz
          by_cases hik : i = k
          · have hn0' := hzero.2 hik
            subst hik
            subst hn0'
            go_wp2_with fail
            go_roundw
            case rel => exact ⟨i + 1, by omega, by go_num, HNX.out⟩
            case measure => simp [intOf]; omega
          · have hn1 : ¬ n = 0 := fun e => hik (hzero.1 e)
            have g1 : ((n : Int) == 0) = false := by simpa using hn1
            have g2 : ((i : Int) == (k : Int)) = false := by simp; omega
            go_wp2_with fail
            go_roundw
            case rel => exact ⟨k + 1, by omega, by go_num, HNX.out⟩
            case measure => simp [intOf]; omega
        · have hke : k = 4 := by omega
          subst hke
          have HK2 : Hid (Below w.heap.size w wr ∧ Row wr n0 57 (ivals (seenTo (4 * (i + 1)))).toArray) := HK.out
          go_wp2_with fail
          go_roundw
          case rel => exact ⟨i + 1, by omega, by go_num, HK2.out⟩
          case measure => simp [intOf]; omega
    · have hie : i = 4 := by omega
      subst hie
      go_wp2_with fail
      go_loopw [9] (fun v wq => ∃ k : Nat, 1 ≤ k ∧ k ≤ 13 ∧ v = .int .i64 k ∧ wq = wr) (fun v _ => 13 - (intOf v).toNat)
      case atStart => exact ⟨1, by omega, by omega, rfl, rfl⟩
      case round =>
        obtain ⟨k, hk1, hk, rfl, hwq⟩ := hrel
        subst hwq
        by_cases hk4 : k < 13
        · have hlk : (k : Int) < 13 := by omega
          have c1 : wr.cell? ⟨n0, k, none⟩ = some (.int .i64 1) := by
            rw [HJ.out.2.cell k]
            have h1 := seen_one ⟨k, hk4⟩ hk1
            have hl := seenTo_len 16
            have h2 : (seenTo 16)[k]'(by omega) = 1 := by rw [← h1]; simp [List.getD, show k < (seenTo 16).length by omega]
            simp [ivals, show k < (seenTo 16).length by omega, h2]
          go_wp2_with fail
          go_roundw
          case rel => exact ⟨k + 1, by omega, by omega, by go_num, (by first | rfl | trivial)⟩
          case measure => simp [intOf]; omega
        · have hke : k = 13 := by omega
          subst hke
          go_wp2_with fail
          refine (second_any wr (HKD.out.up HJ.out.1)).mono ?_; rintro e w1 ⟨rfl, hb1⟩
          have HB1 := Lib.hid (HJ.out.1.trans (hb1.mono HJ.out.1.size))
          clear hb1 HJ
          go_wp2_with fail
          refine (kind_any w1 a b ha hb (HKD.out.up HB1.out)).mono ?_; rintro e w2 ⟨rfl, rfl⟩
          go_wp2_with fail
          refine (refKind_any _ a b ha hb).mono ?_; rintro e w3 ⟨rfl, hb3⟩
          have HB3 := Lib.hid (HB1.out.trans (hb3.mono HB1.out.size))
          clear hb3 HB1
          have ta : (a : Int).tmod 4 = ((a % 4 : Nat) : Int) := by rw [Int.tmod_eq_emod_of_nonneg (by omega)]; omega
          have tb : (b : Int).tmod 4 = ((b % 4 : Nat) : Int) := by rw [Int.tmod_eq_emod_of_nonneg (by omega)]; omega
          have hA : a % 4 < 256 := by omega
          have hB : b % 4 < 256 := by omega
          generalize a % 4 = A at *
          generalize b % 4 = B at *
          generalize kindO a b = kab
          go_wp2_with fail
          refine (kind_any w3 A B hA hB (HKD.out.up HB3.out)).mono ?_; rintro e w4 ⟨rfl, rfl⟩
          go_wp2_with fail
          refine (refKind_any _ A B hA hB).mono ?_; rintro e w5 ⟨rfl, hb5⟩
          have HB5 := Lib.hid (HB3.out.trans (hb5.mono HB3.out.size))
          clear hb5 HB3
          generalize kindO A B = kcd
          go_wp2_with fail
          go_ret
          exact ⟨rfl, HB5.out⟩

end Go.Proofs.YtblbbdkpebacbaaDoor
