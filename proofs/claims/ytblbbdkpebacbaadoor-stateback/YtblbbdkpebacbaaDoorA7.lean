/- Contract of state: Changes. -/
import Derived.Test.YtblbbdkpebacbaaDoorA6
namespace Go.Proofs.YtblbbdkpebacbaaDoor
open Go.RowKit Fl
set_option maxRecDepth 100000

set_option maxHeartbeats 4000000 in
theorem changes_any (w : World) (va vb : Value) (x y : List Nat) (ha : Rd w w.heap.size va (bvals x)) (hb : Rd w w.heap.size vb (bvals y)) (hx : ∀ v ∈ x, v < 256) (hy : ∀ v ∈ y, v < 256) (hlx : x.length ≤ 1000) (hk : KD w) :
    Calls Tryd.prog 26 #[va, vb] w (RetChs (chgO x y) w) := by
  have HA := Lib.hid ha; have HB := Lib.hid hb; have HK := Lib.hid hk
  obtain ⟨A, c, rfl, -⟩ := ha
  obtain ⟨A', c', rfl, -⟩ := hb
  have HX := Lib.hid hx; have HY := Lib.hid hy
  simp only [bvals_length] at HA HB ⊢
  obtain ⟨n, hn⟩ : ∃ n, x.length = n := ⟨_, rfl⟩
  obtain ⟨m, hm⟩ : ∃ n, y.length = n := ⟨_, rfl⟩
  have HN := Lib.hid hn; have HM := Lib.hid hm
  rw [hn] at HA hlx
  rw [hm] at HB
  obtain ⟨z, hz⟩ : ∃ z, min n m = z := ⟨_, rfl⟩
  have hzi : min (n : Int) (m : Int) = (z : Int) := by omega
  have hz1 : z ≤ n := by omega
  have hz2 : z ≤ m := by omega
  have HE : Hid (chgO x y = chgTo x y z) := by show _ = _; unfold chgO; rw [hn, hm, hz]
  have HS : Hid (ChSt w (.slice none 0 0) x y 0 w) := ⟨World.ownsRow_nil _ _ _ _, Below.refl _ _⟩
  rw [hn, hm]
  clear hk hx hy hn hm hz
  obtain ⟨i6, hi6, hz60, hz61, hz62⟩ := info_parts Tryd.info66n
  go_enter Tryd.func26, Tryd.ntmps26
  go_wp2_with fail
  go_loopw [5, 13] (fun v5 k wr => ∃ i : Nat, i ≤ z ∧ k = .int .i64 i ∧ Hid (ChSt w v5 x y i wr)) (fun _ k _ => z - (intOf k).toNat)
  case atStart => exact ⟨0, Nat.zero_le _, rfl, HS.out⟩
  case round =>
    obtain ⟨i, hi, rfl, HJ⟩ := hrel
    clear HS
    by_cases hlt : i < z
    · have hli : (i : Int) < (z : Int) := by omega
      have hix : i < x.length := by have := HN.out; omega
      have hiy : i < y.length := by have := HM.out; omega
      obtain ⟨b, o, hA, _, k1⟩ := (HA.out.below HJ.out.bel (Nat.le_refl _)).at (bvals_get x i hix)
      obtain ⟨b', o', hA', _, k2⟩ := (HB.out.below HJ.out.bel (Nat.le_refl _)).at (bvals_get y i hiy)
      subst hA hA'
      have hgx : x[i] < 256 := HX.out _ (List.getElem_mem hix)
      have hgy : y[i] < 256 := HY.out _ (List.getElem_mem hiy)
      have ex : x.getD i 0 = x[i] := by simp [List.getD, hix]
      have ey : y.getD i 0 = y[i] := by simp [List.getD, hiy]
      have HC : Hid (∀ q, Calls Tryd.prog 22 #[.int .u8 ((x[i] : Nat) : Int), .int .u8 ((y[i] : Nat) : Int)] (wr.drewN q) fun e w' => e = .returned (.int .u8 (kindO x[i] y[i] : Int)) ∧ w' = wr.drewN q) := fun q => kind_any _ _ _ hgx hgy ((HK.out.up HJ.out.bel).drewN q)
      obtain ⟨k, hk⟩ : ∃ k, kindO x[i] y[i] = k := ⟨_, rfl⟩
      have HKK : Hid (kindO (x.getD i 0) (y.getD i 0) = k ∧ k < 256) := ⟨by rw [ex, ey]; exact hk, by rw [← hk]; have := kindO_le x[i] y[i]; omega⟩
      rw [hk] at HC
      generalize ((x[i] : Nat) : Int) = X at *
      generalize ((y[i] : Nat) : Int) = Y at *
      clear hgx hgy ex ey hk
      obtain ⟨A9, c9, hv9⟩ := own_slice HJ.out.own
      subst hv9
      have HLn : Hid ((chgTo x y i).length ≤ i) := chgTo_len x y i
      obtain ⟨l, hl⟩ : ∃ l, (chgTo x y i).length = l := ⟨_, rfl⟩
      have HL := Lib.hid hl
      rw [hl] at HLn ⊢
      clear hl
      go_upto_region 5 with (fail)
      go_quiet ((go_at_call 22; exact Calls.quiet_of_same (HC.out _)))
      have HJ2 : Hid (ChSt w (.slice A9 l c9) x y i (wr.drewN nq)) := by
        have := HJ.out; rw [HL.out] at this; exact this.call (Below.drewN (Below.refl _ _) nq)
      clear HJ HC k1 k2
      generalize wr.drewN nq = wq at *
      by_cases hk0 : k = 0
      · subst hk0
        have HN2 := Lib.hid (HJ2.out.skip HKK.out.1)
        clear HJ2
        go_wp2_with fail
        go_roundw
        case rel => exact ⟨i + 1, by omega, by go_num, HN2.out⟩
        case measure => simp [intOf]; omega
      · have hk1 : ((k : Int) != 0) = true := by simp; omega
        have hk2 : ¬ (k : Int) = 0 := by omega
        have HNX : Hid (∀ (v' : Value) (W' : World), W'.ownsRow w.heap.size 66 2 v' (l + 1) (ccells (chgTo x y i) ++ [.int .i64 (i : Int), .int .u8 (k : Int)]) → (wq.alloc (.cells #[.int .i64 (i : Int), .int .u8 (k : Int)] 66)).grownBy W' (Value.slice A9 l c9).ownBlock → ChSt w v' x y (i + 1) W') := fun v' W' h1 h2 => HJ2.out.put HKK.out.1 hk0 (by rw [HL.out]) h1 h2
        have HOW : Hid (wq.ownsRow w.heap.size 66 2 (.slice A9 l c9) l (ccells (chgTo x y i))) := by have := HJ2.out.own; rw [HL.out] at this; exact this
        have hsz := HJ2.out.bel.size
        have hl2 := HLn.out
        clear HJ2
        go_wp2_with (at_builtin; refine wpList_append_own_at _ rfl (.tmp 27) (.tmp 31) 62 rfl w.heap.size 66 i6 (.agg #[.int .i64 0, .int .u8 0]) 2 16 Tryd.underlying62 hi6 hz60 hz61 hz62 rfl (by decide) _ _ _ rfl (HOW.out.alloc _) ⟨wq.heap.size, 0, none⟩ 1 1 [.int .i64 (i : Int), .int .u8 (k : Int)] rfl rfl (two_new wq 66 _ _) (two_cell rfl rfl) (by unfold maxLen; omega) (by omega) (by simp; omega) ?_)
        intro v7 w7 hown7 hgrow7 _ _
        have HNY := Lib.hid (HNX.out _ _ hown7 hgrow7)
        clear hown7 hgrow7
        go_wp2_with fail
        go_roundw
        case rel => exact ⟨i + 1, by omega, by go_num, HNY.out⟩
        case measure => simp [intOf]; omega
    · have hin : i = z := by omega
      subst hin
      go_wp2_with fail
      go_ret
      rw [HE.out]
      exact ⟨_, rfl, HJ.out.own, HJ.out.bel⟩
end Go.Proofs.YtblbbdkpebacbaaDoor
