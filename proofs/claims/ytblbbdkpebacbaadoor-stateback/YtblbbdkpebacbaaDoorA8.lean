/- Contract of the document: Changes. -/
import Derived.Test.YtblbbdkpebacbaaDoorA7
import Derived.Deep.RegionHeld3
namespace Go.Proofs.YtblbbdkpebacbaaDoor
open Go.RowKit Fl
set_option maxRecDepth 100000

set_option maxHeartbeats 4000000 in
theorem refChanges_any (w : World) (va vb : Value) (x y : List Nat) (ha : Rd w w.heap.size va (bvals x)) (hb : Rd w w.heap.size vb (bvals y)) (hx : ∀ v ∈ x, v < 256) (hy : ∀ v ∈ y, v < 256) (hlx : x.length ≤ 1000) :
    Calls Tryd.prog 27 #[va, vb] w (RetChs (chgO x y) w) := by
  have HA := Lib.hid ha; have HB := Lib.hid hb
  obtain ⟨A, c, rfl, -⟩ := ha
  obtain ⟨A', c', rfl, -⟩ := hb
  have HX := Lib.hid hx; have HY := Lib.hid hy
  simp only [bvals_length] at HA HB ⊢
  obtain ⟨n, hn⟩ : ∃ n, x.length = n := ⟨_, rfl⟩
  obtain ⟨m, hm⟩ : ∃ n, y.length = n := ⟨_, rfl⟩
  have HN := Lib.hid hn; have HM := Lib.hid hm
  rw [hn] at HA hlx
  rw [hm] at HB
  obtain ⟨z, hz⟩ : ∃ z, min n m = z := ⟨_, rfl⟩
  have hz1 : z ≤ n := by omega
  have hz2 : z ≤ m := by omega
  have HZ : Hid (z = n ∨ z = m) := by show _ ∨ _; omega
  have HE : Hid (chgO x y = chgTo x y z) := by show _ = _; unfold chgO; rw [hn, hm, hz]
  have HS : Hid (ChSt w (.slice none 0 0) x y 0 w) := ⟨World.ownsRow_nil _ _ _ _, Below.refl _ _⟩
  rw [hn, hm]
  clear hx hy hn hm hz
  obtain ⟨i6, hi6, hz60, hz61, hz62⟩ := info_parts Tryd.info66n
  go_enter Tryd.func27, Tryd.ntmps27
  go_wp2_with fail
  go_loopw [5, 6] (fun v5 k wr => ∃ i : Nat, i ≤ z ∧ k = .int .i64 i ∧ Hid (ChSt w v5 x y i wr)) (fun _ k _ => z - (intOf k).toNat)
  case atStart => exact ⟨0, Nat.zero_le _, rfl, HS.out⟩
  case round =>
    obtain ⟨i, hi, rfl, HJ⟩ := hrel
    clear HS
    by_cases hlt : i < z
    · have hli : (i : Int) < (n : Int) := by omega
      have hli2 : (i : Int) < (m : Int) := by omega
      have hix : i < x.length := by have := HN.out; omega
      have hiy : i < y.length := by have := HM.out; omega
      obtain ⟨b, o, hA, hbl, k1⟩ := (HA.out.below HJ.out.bel (Nat.le_refl _)).at (bvals_get x i hix)
      obtain ⟨b', o', hA', hbl', k2⟩ := (HB.out.below HJ.out.bel (Nat.le_refl _)).at (bvals_get y i hiy)
      subst hA hA'
      have hgx : x[i] < 256 := HX.out _ (List.getElem_mem hix)
      have hgy : y[i] < 256 := HY.out _ (List.getElem_mem hiy)
      have ex : x.getD i 0 = x[i] := by simp [List.getD, hix]
      have ey : y.getD i 0 = y[i] := by simp [List.getD, hiy]
      have HC : Hid (∀ W, Calls Tryd.prog 23 #[.int .u8 ((x[i] : Nat) : Int), .int .u8 ((y[i] : Nat) : Int)] W fun e w' => e = .returned (.int .u8 (kindO x[i] y[i] : Int)) ∧ Below W.heap.size W w') := fun W => refKind_any _ _ _ hgx hgy
      obtain ⟨k, hk⟩ : ∃ k, kindO x[i] y[i] = k := ⟨_, rfl⟩
      have HKK : Hid (kindO (x.getD i 0) (y.getD i 0) = k ∧ k < 256) := ⟨by rw [ex, ey]; exact hk, by rw [← hk]; have := kindO_le x[i] y[i]; omega⟩
      rw [hk] at HC
      obtain ⟨X, hX⟩ : ∃ X, ((x[i] : Nat) : Int) = X := ⟨_, rfl⟩
      obtain ⟨Y, hY⟩ : ∃ Y, ((y[i] : Nat) : Int) = Y := ⟨_, rfl⟩
      have HSS : Hid (∀ v5 j W, ChSt w v5 x y j W → (W.cell? ⟨b, o + i, none⟩ = some (.int .u8 X) ∧ W.cell? ⟨b', o' + i, none⟩ = some (.int .u8 Y))) := by
        intro v5 j W h
        obtain ⟨e1, e2, h1, -, h2⟩ := (HA.out.below h.bel (Nat.le_refl _)).at (bvals_get x i hix)
        obtain ⟨e3, e4, h3, -, h4⟩ := (HB.out.below h.bel (Nat.le_refl _)).at (bvals_get y i hiy)
        injection h1 with h1; injection h1 with h5 h6; injection h3 with h3; injection h3 with h7 h8
        subst h5 h6 h7 h8
        rw [← hX, ← hY]; exact ⟨h2, h4⟩
      rw [hX] at k1 HC
      rw [hY] at k2 HC
      clear hgx hgy ex ey hk hX hY
      obtain ⟨A9, c9, hv9⟩ := own_slice HJ.out.own
      subst hv9
      have HLn : Hid ((chgTo x y i).length ≤ i) := chgTo_len x y i
      obtain ⟨l, hl⟩ : ∃ l, (chgTo x y i).length = l := ⟨_, rfl⟩
      have HL := Lib.hid hl
      have hj0 := HJ.out
      rw [hl] at HLn hj0 ⊢
      have HJ0 := Lib.hid hj0
      clear hl HJ hj0
      go_upto_region 5 with (fail)
      go_cut [28] (fun v wx => v = .bool (decide ((0 : Int) < (k : Int))) ∧ Hid (ChSt w (.slice A9 l c9) x y i wx))
      case first =>
        rename_i J K' hJ hK
        have hst : ChSt w (.slice A9 l c9) x y i wr.drew := ⟨HJ0.out.own, HJ0.out.bel.drew⟩
        have s0 := HSS.out _ _ _ hst
        clear k1 k2
        obtain ⟨k1, k2⟩ := (show _ from s0)
        go_region_held3 (fun w' => w'.cell? ⟨b, o + i, none⟩ = some (.int .u8 X) ∧ w'.cell? ⟨b', o' + i, none⟩ = some (.int .u8 Y)) (first | (with_reducible assumption) | (with_reducible exact s0) | go_keep) (first | (go_at_call 23; (with_reducible refine (HC.out _).mono ?_); rintro y0 v1 ⟨rfl, hbx⟩; have hst := hst.call hbx; have s0 := HSS.out _ _ _ hst; clear hbx))
        all_goals (refine hK _ _ (Met.intro (hJ _ _ ?_)); (repeat apply Exists.intro); refine ⟨?rel, rfl⟩; case rel => exact ⟨by simp, hst⟩)
      case rest =>
      obtain ⟨rfl, HJ2⟩ := hcut
      obtain ⟨wq, hwq⟩ : ∃ W, W = wc := ⟨_, rfl⟩
      subst hwq
      clear k1 k2
      by_cases hk0 : k = 0
      · subst hk0
        have HN2 := Lib.hid (HJ2.out.skip HKK.out.1)
        clear HJ2 HJ0
        go_wp2_with fail
        go_roundw
        case rel => exact ⟨i + 1, by omega, by go_num, HN2.out⟩
        case measure => simp [intOf]; omega
      · have hk1 : (0 : Int) < (k : Int) := by omega
        have hk3 : decide ((0 : Int) < (k : Int)) = true := by simpa using hk1
        clear HJ0
        go_upto_region 6 with (fail)
        refine AnyBut.region (fun w' => w'.cell? ⟨b, o + i, none⟩ = some (.int .u8 X) ∧ w'.cell? ⟨b', o' + i, none⟩ = some (.int .u8 Y)) 14 (by kernel_rfl) ?_
        change AnyBut _ _ _ _ _ _ _ _ _ wq.drew
        have hjd : ChSt w (.slice A9 l c9) x y i wq.drew := ⟨HJ2.out.own, HJ2.out.bel.drew⟩
        have HJD := Lib.hid hjd
        have d := HSS.out _ _ _ hjd
        clear HJ2 hjd
        generalize wq.drew = wd at *
        refine AnyBut.take 0 rfl (by kernel_rfl) (by kernel_rfl) (by kernel_rfl) (by kernel_rfl) (by decide) (fun _ _ _ h => h) (yields_of (by rfl) (fun w9 hS => (by obtain ⟨s1, s2⟩ := hS; go_simp; try rfl))) d ?_
        refine AnyBut.take 1 rfl (by kernel_rfl) (by kernel_rfl) (by kernel_rfl) (by kernel_rfl) (by decide) (fun _ _ _ h => h) (yields_of (by rfl) (fun w9 hS => (by obtain ⟨s1, s2⟩ := hS; go_simp; try rfl))) d ?_
        refine AnyBut.take 2 rfl (by kernel_rfl) (by kernel_rfl) (by kernel_rfl) (by kernel_rfl) (by decide) (fun _ _ _ h => h) (yields_of (by rfl) (fun w9 hS => (by obtain ⟨s1, s2⟩ := hS; go_simp; try rfl))) d ?_
        refine AnyBut.take 3 rfl (by kernel_rfl) (by kernel_rfl) (by kernel_rfl) (by kernel_rfl) (by decide) (fun _ _ _ h => h) (yields_of (by rfl) (fun w9 hS => (by obtain ⟨s1, s2⟩ := hS; go_simp; try rfl))) d ?_
        refine AnyBut.take 4 rfl (by kernel_rfl) (by kernel_rfl) (by kernel_rfl) (by kernel_rfl) (by decide) (fun _ _ _ h => h) (yields_of (by rfl) (fun w9 hS => (by obtain ⟨s1, s2⟩ := hS; go_simp; try rfl))) d ?_
        refine AnyBut.take 5 rfl (by kernel_rfl) (by kernel_rfl) (by kernel_rfl) (by kernel_rfl) (by decide) (fun _ _ _ h => h) (yields_of (by rfl) (fun w9 hS => (by obtain ⟨s1, s2⟩ := hS; go_simp; try rfl))) d ?_
        refine AnyBut.take 6 rfl (by kernel_rfl) (by kernel_rfl) (by kernel_rfl) (by kernel_rfl) (by decide) (fun _ _ _ h => h) (yields_of (by rfl) (fun w9 hS => (by obtain ⟨s1, s2⟩ := hS; go_simp; try rfl))) d ?_
        refine AnyBut.take 7 rfl (by kernel_rfl) (by kernel_rfl) (by kernel_rfl) (by kernel_rfl) (by decide) (fun _ _ _ h => h) (yields_of (by rfl) (fun w9 hS => (by obtain ⟨s1, s2⟩ := hS; go_simp; try rfl))) d ?_
        refine AnyBut.take 8 rfl (by kernel_rfl) (by kernel_rfl) (by kernel_rfl) (by kernel_rfl) (by decide) (fun _ _ _ h => h) (yields_of (by rfl) (fun w9 hS => (by obtain ⟨s1, s2⟩ := hS; go_simp; try rfl))) d ?_
        refine AnyBut.take 9 rfl (by kernel_rfl) (by kernel_rfl) (by kernel_rfl) (by kernel_rfl) (by decide) (fun _ _ _ h => h) (yields_of (by rfl) (fun w9 hS => (by obtain ⟨s1, s2⟩ := hS; go_simp; try rfl))) d ?_
        clear d
        refine AnyBut.one 10 rfl (by kernel_rfl) (by rfl) ?_
        go_simp
        refine (HC.out _).mono ?_; rintro y0 w1 ⟨rfl, hbx⟩
        have hj1 := HJD.out.call hbx
        have HJ1 := Lib.hid hj1
        have d := HSS.out _ _ _ hj1
        clear hbx hj1 HJD
        refine ⟨d, ?_⟩
        refine AnyBut.one 11 rfl (by kernel_rfl) (by rfl) ?_
        go_simp
        have hba := (Below.refl w1.heap.size w1).alloc (Nat.le_refl _) (.cells #[.int .i64 (i : Int), .int .u8 (k : Int)] 66)
        have hj2 := HJ1.out.call hba
        have HNX : Hid (∀ (v' : Value) (W' : World), W'.ownsRow w.heap.size 66 2 v' (l + 1) (ccells (chgTo x y i) ++ [.int .i64 (i : Int), .int .u8 (k : Int)]) → (w1.alloc (.cells #[.int .i64 (i : Int), .int .u8 (k : Int)] 66)).grownBy W' (Value.slice A9 l c9).ownBlock → ChSt w v' x y (i + 1) W') := fun v' W' h1 h2 => HJ1.out.put HKK.out.1 hk0 (by rw [HL.out]) h1 h2
        have HOW : Hid ((w1.alloc (.cells #[.int .i64 (i : Int), .int .u8 (k : Int)] 66)).ownsRow w.heap.size 66 2 (.slice A9 l c9) l (ccells (chgTo x y i))) := by have := hj2.own; rw [HL.out] at this; exact this
        have hsz := hj2.bel.size
        have d2 := HSS.out _ _ _ hj2
        have HNW := Lib.hid (two_new w1 66 (.int .i64 (i : Int)) (.int .u8 (k : Int)))
        have hl2 := HLn.out
        clear hba hj2 d
        refine AnyBut.one 12 rfl (by kernel_rfl) (by rfl) ?_
        go_simp
        refine AnyBut.one 13 rfl (by kernel_rfl) (by rfl) ?_
        refine wp_append_lies (w1.alloc (.cells #[.int .i64 (i : Int), .int .u8 (k : Int)] 66)) (.tmp 29) (.tmp 41) 62 rfl w.heap.size 66 i6 (.agg #[.int .i64 0, .int .u8 0]) 2 16 Tryd.underlying62 hi6 hz60 hz61 hz62 rfl (by decide) (.slice A9 l c9) l (ccells (chgTo x y i)) (by rfl) HOW.out ⟨w1.heap.size, 0, none⟩ 1 1 [.int .i64 (i : Int), .int .u8 (k : Int)] (by rfl) rfl HNW.out (two_cell rfl rfl) (by omega) (by unfold maxLen; omega) (by omega) hsz _ rfl ?_
        intro g7 c7 w7 hown7 hgrow7 _ _
        have hny := HNX.out _ _ hown7 hgrow7
        have HNY := Lib.hid hny
        have d3 := HSS.out _ _ _ hny
        clear hown7 hgrow7 hny d2
        refine ⟨fun _ => d3, ?_⟩
        refine AnyBut.one 14 rfl (by kernel_rfl) (by rfl) ?_
        go_simp
        refine AnyBut.done (by kernel_rfl) ?_
        clear d3
        go_wp2_with fail
        go_roundw
        case rel => exact ⟨i + 1, by omega, by go_num, HNY.out⟩
        case measure => simp [intOf]; omega
    · have hin : i = z := by omega
      have hw : ¬ (i : Int) < (n : Int) ∨ ((i : Int) < (n : Int) ∧ ¬ (i : Int) < (m : Int)) := by have := HZ.out; omega
      rcases hw with hw | ⟨hw, hw2⟩
      · go_wp2_with fail
        go_ret
        rw [HE.out, ← hin]
        exact ⟨_, rfl, HJ.out.own, HJ.out.bel⟩
      · go_wp2_with fail
        go_ret
        rw [HE.out, ← hin]
        exact ⟨_, rfl, HJ.out.own, HJ.out.bel⟩
end Go.Proofs.YtblbbdkpebacbaaDoor
