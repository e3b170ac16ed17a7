/- The law's walk: TrainJoins. -/
import Derived.Test.YtifcgkpannlnnaaJ4
import Derived.Test.YtifcgkpannlnnaaRise
namespace Go.Proofs.Ytifcgkpannlnnaa
open Go.RowKit Fl
set_option maxRecDepth 100000

/-- Numbers below sixteen. -/
def low16 (p : List Nat) : List Int := p.map fun x => ((x % 16 : Nat) : Int)
theorem low16_len (p : List Nat) : (low16 p).length = p.length := by simp [low16]
theorem low16_get (p : List Nat) (i : Nat) (h : i < p.length) : (low16 p)[i]'(by rw [low16_len]; exact h) = ((p[i] % 16 : Nat) : Int) := by simp [low16]
theorem low16_in (p : List Nat) : ∀ n ∈ low16 p, 0 ≤ n ∧ n < 16 := by
  intro n hn
  obtain ⟨x, _, rfl⟩ := List.mem_map.1 hn
  omega
theorem low16_take (p : List Nat) (i : Nat) (h : i < p.length) : low16 (p.take (i + 1)) = low16 (p.take i) ++ [((p[i] % 16 : Nat) : Int)] := by
  unfold low16; rw [List.take_succ_eq_append_getElem h, List.map_append]; rfl
/-- Each once. -/
def onceL (p : List Nat) : List Int := (low16 p).foldl addL []
theorem onceL_take (p : List Nat) (i : Nat) (h : i < p.length) : onceL (p.take (i + 1)) = addL (onceL (p.take i)) ((p[i] % 16 : Nat) : Int) := by
  unfold onceL; rw [low16_take p i h, List.foldl_append]; rfl
theorem onceL_len (p : List Nat) : (onceL p).length ≤ p.length := by
  have h := (foldl_ge (low16 p) []).2
  rw [low16_len] at h
  unfold onceL; simpa using h
theorem onceL_nodup (p : List Nat) : (onceL p).Nodup := foldl_nodup _ List.nodup_nil
theorem onceL_wf (p : List Nat) : Wf (onceL p) := wf_of fun n hn => by
  have h := (foldl_mem (low16 p) [] n).1 hn
  rcases h with h | h
  · simp at h
  · have := low16_in p n h; omega

set_option maxHeartbeats 16000000 in
theorem lawJoins (w : World) (A A' : Option Addr) (c c' : Nat) (p q : List Nat) (hp : Rd w w.heap.size (.slice A p.length c) (bvals p)) (hq : Rd w w.heap.size (.slice A' q.length c') (bvals q)) (hlp : p.length ≤ 9223372036854775807) (hlq : q.length ≤ 9223372036854775807) (hbp : ∀ x ∈ p, x < 256) (hbq : ∀ x ∈ q, x < 256) :
    Calls Try.prog 4 #[.slice A p.length c, .slice A' q.length c'] w (RetL true w) := by
  have HP := Lib.hid hp; have HQ := Lib.hid hq
  have HBP := Lib.hid hbp; have HBQ := Lib.hid hbq
  obtain ⟨i3, hi3, hz30, hz31, hz32⟩ := info_parts Try.info3n
  clear hp hq hbp hbq
  by_cases hsm : p.length ≤ 14 ∧ q.length ≤ 20
  · obtain ⟨hp14, hq20⟩ := hsm
    go_enter Try.func4, Try.ntmps4
    go_wp2_with fail
    refine (nothing_any w).mono ?_; rintro e w1 ⟨rfl, hb⟩
    have HB1 := Lib.hid hb
    clear hb
    have HSW : Hid (w.heap.size ≤ w1.heap.size) := HB1.out.size
    obtain ⟨B, hB⟩ : ∃ B, w.heap.size = B := ⟨_, rfl⟩
    rw [hB] at HP HQ HB1 HSW
    have HBE := Lib.hid hB
    clear hB
    go_wp2_with fail
    go_loopw [5, 7] (fun va iv wr => ∃ (i : Nat) (o : List Int), i ≤ p.length ∧ iv = .int .i64 i ∧ o.length ≤ i ∧ Hid (o = onceL (p.take i)) ∧ Hid (wr.ownsRow B 3 1 va o.length (ivals o)) ∧ Hid (Below B w wr)) (fun _ iv _ => p.length - (intOf iv).toNat)
    case atStart => exact ⟨0, [], Nat.zero_le _, rfl, Nat.zero_le _, rfl, World.ownsRow_nil _ _ _ _, HB1⟩
    case round =>
      obtain ⟨i, o, hi, rfl, hol, HOE, HO, HB⟩ := hrel
      obtain ⟨Av, cv, hv⟩ := own_slice HO.out
      subst hv
      have HSZ : Hid (B ≤ wr.heap.size) := by have := HB.out.size; have := HBE.out; show B ≤ _; omega
      by_cases hlt : i < p.length
      · obtain ⟨b, o', hA, hbB, q0⟩ := (HP.out.below HB.out (Nat.le_refl _)).at (i := i) (u := .int .u8 (p[i] : Int)) (bvals_get p i hlt)
        subst hA
        have HN : Hid (onceL (p.take (i + 1)) = addL o ((p[i] % 16 : Nat) : Int)) := by show _ = _; rw [onceL_take p i hlt, HOE.out]
        have hby := HBP.out p[i] (List.getElem_mem _)
        generalize p[i] = x at *
        obtain ⟨y, hy⟩ : ∃ y, x % 16 = y := ⟨_, rfl⟩
        rw [hy] at HN
        have hmod : ((x : Int)).tmod 16 = (y : Int) := by rw [Int.tmod_eq_emod_of_nonneg (by omega)]; omega
        have hmod2 : (x : Int) % 16 = (y : Int) := by omega
        have hy16 : y < 16 := by omega
        clear hy
        go_wp2_with fail
        refine (refHas_any wr wr.heap.size _ o (y : Int) (Rd.of_own HO.out) (by omega)).mono ?_; rintro e wh ⟨rfl, rfl⟩
        cases hc : o.contains (y : Int) with
        | true =>
          have HN2 : Hid (o = onceL (p.take (i + 1))) := by show _ = _; rw [HN.out, addL, if_pos hc]
          clear hc HN HOE
          go_wp2_with fail
          go_roundw
          case rel => exact ⟨i + 1, o, by omega, by go_num, by omega, HN2, HO, HB⟩
          case measure => simp [intOf]; omega
        | false =>
          have HN2 : Hid (o ++ [(y : Int)] = onceL (p.take (i + 1))) := by show _ = _; rw [HN.out, addL, if_neg (by rw [hc]; decide)]
          have HSN : Hid (ivals o ++ [.int .i64 (y : Int)] = ivals (o ++ [(y : Int)]) ∧ (o ++ [(y : Int)]).length = o.length + 1) := ⟨ivals_snoc' o (y : Int), by simp⟩
          clear hc HN HOE
          go_wp2_with (first
            | (at_builtin; refine wpList_append_own _ rfl (.tmp 39) (.tmp 46) 40 rfl B 3 i3 (.int .i64 0) 1 8 Try.underlying40 hi3 hz30 hz31 hz32 rfl (by decide) _ _ _ rfl (HO.out.alloc _) ⟨wr.heap.size, 0, none⟩ 1 1 [.int .i64 (y : Int)] rfl rfl (one_new wr 3 _) (one_cell rfl) (by unfold maxLen; omega) (by omega) (by have := HSZ.out; simp; omega) ?_; intro v7 w7 hown7 hgrow7 _)
            | fail)
          rw [HSN.out.1] at hown7
          have HB7 : Hid (Below B w w7) := (HB.out.alloc HSZ.out _).grown hgrow7 (by simp; have := HSZ.out; omega) (fun j hj => (HO.out.lt j hj).1)
          have HO7 : Hid (w7.ownsRow B 3 1 v7 (o ++ [(y : Int)]).length (ivals (o ++ [(y : Int)]))) := by rw [HSN.out.2]; exact hown7
          go_roundw
          case rel => exact ⟨i + 1, o ++ [(y : Int)], by omega, by go_num, by rw [HSN.out.2]; omega, HN2, HO7, HB7⟩
          case measure => simp [intOf]; omega
      · have HOP : Hid (o = onceL p) := by show _ = _; rw [HOE.out, List.take_of_length_le (by omega)]
        have HRA := Lib.hid (Rd.of_own HO.out)
        obtain ⟨B2, hB2⟩ : ∃ B2, wr.heap.size = B2 := ⟨_, rfl⟩
        rw [hB2] at HRA HSZ
        have HBE2 := Lib.hid hB2
        have HB3 := Lib.hid (Below.refl B2 wr)
        clear hB2 HO HOE
        obtain ⟨WL, hWL⟩ : ∃ WL, WL = wr := ⟨_, rfl⟩
        subst hWL
        go_wp2_with fail
        go_loopw [6, 8] (fun va iv wr => ∃ (i : Nat) (o : List Int), i ≤ q.length ∧ iv = .int .i64 i ∧ o.length ≤ i ∧ Hid (o = low16 (q.take i)) ∧ Hid (wr.ownsRow B2 3 1 va o.length (ivals o)) ∧ Hid (Below B2 WL wr)) (fun _ iv _ => q.length - (intOf iv).toNat)
        case atStart => exact ⟨0, [], Nat.zero_le _, rfl, Nat.zero_le _, rfl, World.ownsRow_nil _ _ _ _, HB3⟩
        case round =>
          obtain ⟨i, b, hi, rfl, hbl, HOE, HO, HB4⟩ := hrel
          obtain ⟨Aw, cw, hv⟩ := own_slice HO.out
          subst hv
          have HSZ4 : Hid (B2 ≤ wr.heap.size) := by have := HB4.out.size; have := HBE2.out; show B2 ≤ _; omega
          by_cases hlt2 : i < q.length
          · obtain ⟨bb, o', hA, hbB, q0⟩ := ((HQ.out.below HB.out (Nat.le_refl _)).below HB4.out HSZ.out).at (i := i) (u := .int .u8 (q[i] : Int)) (bvals_get q i hlt2)
            subst hA
            have HN : Hid (low16 (q.take (i + 1)) = b ++ [((q[i] % 16 : Nat) : Int)]) := by show _ = _; rw [low16_take q i hlt2, HOE.out]
            have hby := HBQ.out q[i] (List.getElem_mem _)
            generalize q[i] = x at *
            obtain ⟨y, hy⟩ : ∃ y, x % 16 = y := ⟨_, rfl⟩
            rw [hy] at HN
            have hmod : ((x : Int)).tmod 16 = (y : Int) := by rw [Int.tmod_eq_emod_of_nonneg (by omega)]; omega
            have hmod2 : (x : Int) % 16 = (y : Int) := by omega
            have hy16 : y < 16 := by omega
            clear hy
            have HSN : Hid (ivals b ++ [.int .i64 (y : Int)] = ivals (b ++ [(y : Int)]) ∧ (b ++ [(y : Int)]).length = b.length + 1) := ⟨ivals_snoc' b (y : Int), by simp⟩
            clear HOE
            go_wp2_with (first
              | (at_builtin; refine wpList_append_own _ rfl (.tmp 54) (.tmp 61) 40 rfl B2 3 i3 (.int .i64 0) 1 8 Try.underlying40 hi3 hz30 hz31 hz32 rfl (by decide) _ _ _ rfl (HO.out.alloc _) ⟨wr.heap.size, 0, none⟩ 1 1 [.int .i64 (y : Int)] rfl rfl (one_new wr 3 _) (one_cell rfl) (by unfold maxLen; omega) (by omega) (by have := HSZ4.out; simp; omega) ?_; intro v7 w7 hown7 hgrow7 _)
              | fail)
            rw [HSN.out.1] at hown7
            have HB7 : Hid (Below B2 WL w7) := (HB4.out.alloc HSZ4.out _).grown hgrow7 (by simp; have := HSZ4.out; omega) (fun j hj => (HO.out.lt j hj).1)
            have HO7 : Hid (w7.ownsRow B2 3 1 v7 (b ++ [(y : Int)]).length (ivals (b ++ [(y : Int)]))) := by rw [HSN.out.2]; exact hown7
            go_roundw
            case rel => exact ⟨i + 1, b ++ [(y : Int)], by omega, by go_num, by rw [HSN.out.2]; omega, HN.out.symm, HO7, HB7⟩
            case measure => simp [intOf]; omega
          · have HOQ : Hid (b = low16 q) := by show _ = _; rw [HOE.out, List.take_of_length_le (by omega)]
            have HRB := Lib.hid (Rd.of_own HO.out)
            have HRA2 : Hid (Rd wr wr.heap.size (.slice Av o.length cv) (ivals o)) := (HRA.out.below HB4.out (Nat.le_refl _)).mono HSZ4.out (fun _ _ => rfl)
            have HBW : Hid (Below B w wr) := HB.out.trans (HB4.out.mono HSZ.out)
            have HBS : Hid (B ≤ wr.heap.size) := Nat.le_trans HSZ.out HSZ4.out
            have HWA : Hid (Wf o) := by rw [HOP.out]; exact onceL_wf p
            have HWB : Hid (Wf b) := by rw [HOQ.out]; exact wf_of fun n hn => by have := low16_in q n hn; omega
            have HND : Hid (o.Nodup) := by rw [HOP.out]; exact onceL_nodup p
            clear HOE HO HRA HB4 HSZ4 HOP HOQ
            obtain ⟨WM, hWM⟩ : ∃ WM, WM = wr := ⟨_, rfl⟩
            subst hWM
            go_wp2_with fail
            refine (join_any WM _ _ o b HRA2.out HRB.out (by omega) (by omega) HWA.out HWB.out).mono ?_; rintro e w3 ⟨v9, rfl, ho9, hb9⟩
            have HRA3 := Lib.hid (HRA2.out.up hb9)
            have HRB3 := Lib.hid (HRB.out.up hb9)
            have HR9 := Lib.hid (Rd.of_own ho9)
            have HB9 : Hid (Below B w w3) := HBW.out.trans (hb9.mono HBS.out)
            have HBS3 : Hid (B ≤ w3.heap.size) := Nat.le_trans HBS.out hb9.size
            obtain ⟨A9, c9, hv9⟩ := own_slice ho9
            subst hv9
            clear ho9 hb9 HRA2 HRB HBW HBS
            have HGE : Hid (o.length ≤ (joinL o b).length ∧ (joinL o b).length ≤ o.length + b.length) := ⟨joinL_ge o b, joinL_le o b⟩
            have HRN : Hid ((riseL (joinL o b)).length = (joinL o b).length) := (riseL_len _).2 (joinL_nodup b HND.out)
            have HJH := Lib.hid (join_has o b)
            obtain ⟨R, hR⟩ : ∃ R, joinL o b = R := ⟨_, rfl⟩
            have HRR := Lib.hid hR
            rw [hR] at HR9 HGE HRN HJH ⊢
            clear hR
            go_wp2_with fail
            refine (refJoin_any w3 _ _ o b HRA3.out HRB3.out (by omega) (by omega)).mono ?_; rintro e w4 ⟨v10, rfl, ho10, hb10⟩
            rw [HRR.out] at ho10
            have HRA4 := Lib.hid (HRA3.out.up hb10)
            have HRB4 := Lib.hid (HRB3.out.up hb10)
            have HR94 := Lib.hid (HR9.out.up hb10)
            have HR10 := Lib.hid (Rd.of_own ho10)
            have HB10 : Hid (Below B w w4) := HB9.out.trans (hb10.mono HBS3.out)
            have HBS4 : Hid (B ≤ w4.heap.size) := Nat.le_trans HBS3.out hb10.size
            clear ho10 hb10 HRA3 HRB3 HR9 HB9 HBS3
            go_wp2_with fail
            refine (ints_any w4 _ _ _ R R HR94.out HR10.out (by have := HGE.out; omega)).mono ?_; rintro e w5 ⟨rfl, n5, hw5⟩
            rw [show decide (R = R) = true from decide_eq_true rfl]
            have hb5 : Below w4.heap.size w4 w5 := by rw [hw5]; exact Below.drewN (Below.refl _ _) n5
            have HRA5 := Lib.hid (HRA4.out.up hb5)
            have HRB5 := Lib.hid (HRB4.out.up hb5)
            have HR95 := Lib.hid (HR94.out.up hb5)
            have HB5 : Hid (Below B w w5) := HB10.out.trans (hb5.mono HBS4.out)
            have HBS5 : Hid (B ≤ w5.heap.size) := Nat.le_trans HBS4.out hb5.size
            clear hb5 hw5 HRA4 HRB4 HR94 HR10 HB10 HBS4
            go_wp2_with fail
            refine (refRise_any w5 _ R HR95.out (by have := HGE.out; omega)).mono ?_; rintro e w6 ⟨v11, rfl, ho11, hb11⟩
            rw [HRN.out] at ho11
            have HRA6 := Lib.hid (HRA5.out.up hb11)
            have HRB6 := Lib.hid (HRB5.out.up hb11)
            have HR96 := Lib.hid (HR95.out.up hb11)
            have HB6 : Hid (Below B w w6) := HB5.out.trans (hb11.mono HBS5.out)
            have HBS6 : Hid (B ≤ w6.heap.size) := Nat.le_trans HBS5.out hb11.size
            obtain ⟨A11, c11, hv11⟩ := own_slice ho11
            subst hv11
            clear ho11 hb11 HRA5 HRB5 HR95 HB5 HBS5
            have hge2 : ¬ (R.length : Int) < (o.length : Int) := by have := HGE.out; omega
            have hge3 : ¬ R.length < o.length := by have := HGE.out; omega
            have HR100 : Hid (R.length ≤ 1000) := by have := HGE.out; show _ ≤ _; omega
            clear HGE HRN HRR
            go_wp2_with fail
            go_loopw [10] (fun jv wr => ∃ k n : Nat, k ≤ b.length ∧ jv = .int .i64 ((k : Int) - 1) ∧ Hid (∀ i (_ : i < b.length), k ≤ i → 0 < o.length → b[i] ≠ o.getD (o.length - 1) 0) ∧ wr = w6.drewN n) (fun jv _ => (intOf jv + 1).toNat)
            case atStart => exact ⟨b.length, 0, Nat.le_refl _, rfl, fun i hi hk => absurd hk (by omega), rfl⟩
            case round =>
              obtain ⟨k, n, hk, rfl, HK, rfl⟩ := hrel
              rcases Nat.eq_zero_or_pos k with hk0 | hk0
              · subst hk0
                have hk1 : ((0 : Nat) : Int) - 1 = -1 := rfl
                rw [hk1]
                go_wp2_with fail
                go_ret
                exact ⟨rfl, by rw [HBE.out]; exact Below.drewN HB6.out n⟩
              · obtain ⟨i, rfl⟩ : ∃ i, k = i + 1 := ⟨k - 1, by omega⟩
                have hki : ((i + 1 : Nat) : Int) - 1 = (i : Int) := by omega
                rw [hki]
                obtain ⟨b8, o8, hA8, -, q8⟩ := HRB6.out.at (i := i) (u := .int .i64 b[i]) (ivals_get b i (by omega))
                subst hA8
                have hki2 : i < b.length := by omega
                have HC : Hid ((0 < o.length → b[i] ≠ o.getD (o.length - 1) 0) → R.contains b[i] = true) := fun h => HJH.out i hki2 (fun j hj hij hp => by
                  rcases Nat.lt_or_ge i j with c | c
                  · exact HK.out j hj (by omega) hp
                  · obtain rfl : j = i := by omega
                    exact h hp)
                have HK2 : Hid ((0 < o.length → b[i] ≠ o.getD (o.length - 1) 0) → ∀ j (_ : j < b.length), i ≤ j → 0 < o.length → b[j] ≠ o.getD (o.length - 1) 0) := fun h j hj hij hp => by
                  rcases Nat.lt_or_ge i j with c | c
                  · exact HK.out j hj (by omega) hp
                  · obtain rfl : j = i := by omega
                    exact h hp
                have HR97 : Hid (∀ m, Rd (w6.drewN m) (w6.drewN m).heap.size (.slice A9 R.length c9) (ivals R)) := fun m => HR96.out.up (Below.drewN (Below.refl _ _) m)
                clear HK hk0
                rcases Nat.eq_zero_or_pos o.length with ho0 | ho0
                · have HC1 := Lib.hid (HC.out (fun h => absurd h (by omega)))
                  have HC2 := Lib.hid (HK2.out (fun h => absurd h (by omega)))
                  generalize b[i] = z at *
                  have g2 : ¬ (0 : Int) < (o.length : Int) := by omega
                  have g3 : ¬ 0 < o.length := by omega
                  clear HC HK2 ho0
                  go_wp2
                  go_quiet (fail)
                  go_wp2_with fail
                  refine (refHas_any (w6.drewN (n + nq)) _ _ R z (HR97.out (n + nq)) (by have := HR100.out; omega)).mono ?_; rintro e wh ⟨rfl, hwh⟩
                  subst hwh
                  rw [HC1.out]
                  go_wp2_with fail
                  go_roundw
                  case rel => exact ⟨i, n + nq, by omega, by go_num, HC2, rfl⟩
                  case measure => simp [intOf]
                · obtain ⟨b9, o9, hA9, -, q9⟩ := HRA6.out.at (i := o.length - 1) (u := .int .i64 o[o.length - 1]) (ivals_get o (o.length - 1) (by omega))
                  subst hA9
                  have hxe : o.getD (o.length - 1) 0 = o[o.length - 1] := by simp [List.getD, List.getElem?_eq_getElem (show o.length - 1 < o.length by omega)]
                  rw [hxe] at HC HK2
                  have g2 : (0 : Int) < (o.length : Int) := by omega
                  have g3 : (0 : Int) ≤ (o.length : Int) - 1 := by omega
                  have g4 : (o.length : Int) - 1 < (o.length : Int) := by omega
                  generalize b[i] = z at *
                  generalize o[o.length - 1] = x at *
                  have HXE := Lib.hid hxe
                  clear hxe
                  by_cases hzx : z = x
                  · subst hzx
                    clear HC HK2
                    go_wp2
                    go_quiet (fail)
                    go_wp2
                    go_ret
                    exact ⟨rfl, by rw [HBE.out]; exact Below.drewN (Below.drewN HB6.out n) _⟩
                  · have HC1 := Lib.hid (HC.out (fun _ => hzx))
                    have HC2 := Lib.hid (HK2.out (fun _ => hzx))
                    have hd : (z == x) = false := by simpa using hzx
                    clear hzx HC HK2
                    go_wp2
                    go_quiet (fail)
                    go_wp2_with fail
                    refine (refHas_any (w6.drewN (n + nq)) _ _ R z (HR97.out (n + nq)) (by have := HR100.out; omega)).mono ?_; rintro e wh ⟨rfl, hwh⟩
                    subst hwh
                    rw [HC1.out]
                    go_wp2_with fail
                    go_roundw
                    case rel => exact ⟨i, n + nq, by omega, by go_num, by rw [HXE.out]; exact HC2, rfl⟩
                    case measure => simp [intOf]
  · by_cases hp14 : p.length ≤ 14
    · have hq20 : 20 < q.length := by omega
      go_enter Try.func4, Try.ntmps4
      go_wp2_with fail
      refine (nothing_any w).mono ?_; rintro e w1 ⟨rfl, hb⟩
      have HB1 := Lib.hid hb
      clear hb
      go_wp2_with fail
      refine (nothing_any w1).mono ?_; rintro e w2 ⟨rfl, hb⟩
      have HB2 : Hid (Below w.heap.size w w2) := HB1.out.trans (hb.mono HB1.out.size)
      clear hb
      go_wp2_with fail
      go_ret
      exact ⟨rfl, HB2.out⟩
    · have hp15 : 14 < p.length := by omega
      go_enter Try.func4, Try.ntmps4
      go_wp2_with fail
      refine (nothing_any w).mono ?_; rintro e w1 ⟨rfl, hb⟩
      have HB1 := Lib.hid hb
      clear hb
      go_wp2_with fail
      refine (nothing_any w1).mono ?_; rintro e w2 ⟨rfl, hb⟩
      have HB2 : Hid (Below w.heap.size w w2) := HB1.out.trans (hb.mono HB1.out.size)
      clear hb
      go_wp2_with fail
      go_ret
      exact ⟨rfl, HB2.out⟩

end Go.Proofs.Ytifcgkpannlnnaa
