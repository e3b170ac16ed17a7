/- Contracts: those; Mute, Doubt. -/
import Derived.Test.YtifcgkpannlnnaaQ6
namespace Go.Proofs.Ytifcgkpannlnnaa
open Go.RowKit Fl Go.Maps
set_option maxRecDepth 100000

/-- Of which train something is so. -/
def soB (m : Mp) (P : Tr → Bool) (x : Int) : Bool := match m x with
  | some t => P t
  | none => false
theorem soB_some {m : Mp} {P : Tr → Bool} {x : Int} {t : Tr} (h : m x = some t) : soB m P x = P t := by unfold soB; rw [h]
theorem filter_take (p : Int → Bool) (ks : List Int) (i : Nat) (h : i < ks.length) : (ks.take (i + 1)).filter p = (ks.take i).filter p ++ (if p ks[i] then [ks[i]] else []) := by
  rw [List.take_succ_eq_append_getElem h, List.filter_append]
  congr 1
  rw [List.filter_cons]; split <;> simp

/-- Times that may be. -/
def Tm (a : Int) : Prop := -1000000000000 ≤ a ∧ a ≤ 1000000000000
/-- Is a train muted? -/
def muteP (now most : Int) (t : Tr) : Bool := lateB t.heard now most
/-- Is a train in doubt? -/
def doubtP (now most : Int) (t : Tr) : Bool := !(t.sure == -1) && lateB t.sure now most
/-- All that is known of a register's times. -/
def Timed (m : Mp) : Prop := ∀ x t, m x = some t → Tm t.heard ∧ Tm t.sure

set_option maxHeartbeats 4000000 in
theorem muteFn (W : World) (v : Value) (t : Tr) (hv : TrV W v t) (g1 g2 : Nat) (now most : Int) (h1 : W.cell? ⟨g1, 0, none⟩ = some (.int .i64 now)) (h2 : W.cell? ⟨g2, 0, none⟩ = some (.int .i64 most)) (hg1 : g1 < W.heap.size) (hg2 : g2 < W.heap.size) (ht : Tm t.heard) (hn : Tm now) :
    Calls Try.prog 45 #[v, .pointer (some ⟨g1, 0, none⟩), .pointer (some ⟨g2, 0, none⟩)] W (RetL (muteP now most t) W) := by
  obtain ⟨vt, rfl, hr⟩ := hv
  obtain ⟨A, c, rfl, -, -⟩ := hr
  simp only [ivals_length]
  have hb := (Below.refl W.heap.size W).alloc (Nat.le_refl _) (.cells (tcells t.id t.heard t.sure t.dir t.ahead (.slice A t.trail.length c)) 58)
  have HB := Lib.hid hb
  have c1 := (hb.cell (p := ⟨g1, 0, none⟩) hg1).trans h1
  have c2 := (hb.cell (p := ⟨g2, 0, none⟩) hg2).trans h2
  have HL := Lib.hid (late_any (W.alloc (.cells (tcells t.id t.heard t.sure t.dir t.ahead (.slice A t.trail.length c)) 58)) t.heard now most ht hn)
  have HM : Hid (muteP now most t = lateB t.heard now most) := rfl
  have r1 := (Row.new W 58 (tcells t.id t.heard t.sure t.dir t.ahead (.slice A t.trail.length c))).cell 1
  simp only [List.getElem?_toArray, List.getElem?_cons_zero, List.getElem?_cons_succ] at r1
  clear h1 h2 hb
  go_enter Try.func45, Try.ntmps45
  go_wp2_with fail
  refine HL.out.mono ?_; rintro x w' ⟨rfl, rfl⟩
  go_wp2_with fail
  go_ret
  exact ⟨ret_bool HM.out.symm, HB.out⟩

set_option maxHeartbeats 4000000 in
theorem doubtFn (W : World) (v : Value) (t : Tr) (hv : TrV W v t) (g1 g2 : Nat) (now most : Int) (h1 : W.cell? ⟨g1, 0, none⟩ = some (.int .i64 now)) (h2 : W.cell? ⟨g2, 0, none⟩ = some (.int .i64 most)) (hg1 : g1 < W.heap.size) (hg2 : g2 < W.heap.size) (ht : Tm t.sure) (hn : Tm now) :
    Calls Try.prog 47 #[v, .pointer (some ⟨g1, 0, none⟩), .pointer (some ⟨g2, 0, none⟩)] W (RetL (doubtP now most t) W) := by
  obtain ⟨id, heard, sure, dir, ahead, trail⟩ := t
  simp only at ht
  by_cases hs : sure = -1
  · subst hs
    have HE : Hid (doubtP now most ⟨id, heard, -1, dir, ahead, trail⟩ = false) := rfl
    rw [HE.out]
    obtain ⟨vt, rfl, hr⟩ := hv
    obtain ⟨A, c, rfl, -, -⟩ := hr
    simp only [ivals_length]
    have HB := Lib.hid ((Below.refl W.heap.size W).alloc (Nat.le_refl _) (.cells (tcells id heard (-1) dir ahead (.slice A trail.length c)) 58))
    clear h1 h2
    go_enter Try.func47, Try.ntmps47
    go_wp2_with fail
    go_ret
    exact ⟨rfl, HB.out⟩
  · have hs2 : (sure == -1) = false := by simpa using hs
    have HE : Hid (doubtP now most ⟨id, heard, sure, dir, ahead, trail⟩ = lateB sure now most) := by show (!(sure == -1) && lateB sure now most) = _; rw [hs2]; rfl
    rw [HE.out]
    obtain ⟨vt, rfl, hr⟩ := hv
    obtain ⟨A, c, rfl, -, -⟩ := hr
    simp only [ivals_length]
    have hb := (Below.refl W.heap.size W).alloc (Nat.le_refl _) (.cells (tcells id heard sure dir ahead (.slice A trail.length c)) 58)
    have HB := Lib.hid hb
    have c1 := (hb.cell (p := ⟨g1, 0, none⟩) hg1).trans h1
    have c2 := (hb.cell (p := ⟨g2, 0, none⟩) hg2).trans h2
    have HL := Lib.hid (late_any (W.alloc (.cells (tcells id heard sure dir ahead (.slice A trail.length c)) 58)) sure now most ht hn)
    have r1 := (Row.new W 58 (tcells id heard sure dir ahead (.slice A trail.length c))).cell 2
    simp only [List.getElem?_toArray, List.getElem?_cons_zero, List.getElem?_cons_succ] at r1
    clear h1 h2 hb HE
    go_enter Try.func47, Try.ntmps47
    go_wp2_with fail
    refine HL.out.mono ?_; rintro x w' ⟨rfl, rfl⟩
    go_wp2_with fail
    go_ret
    exact ⟨ret_bool (by simp [bne, hs2]), HB.out⟩

set_option maxHeartbeats 8000000 in
theorem those_mute (w : World) (rb mb n : Nat) (m : Mp) (ks : List Int) (h : Reg w rb mb n m) (hks : Ks ks m) (hl : ks.length ≤ 1000000) (hwf : Wf ks) (g1 g2 : Nat) (now most : Int) (h1 : w.cell? ⟨g1, 0, none⟩ = some (.int .i64 now)) (h2 : w.cell? ⟨g2, 0, none⟩ = some (.int .i64 most)) (hg1 : g1 < w.heap.size) (hg2 : g2 < w.heap.size) (ht : Timed m) (hn : Tm now) :
    Calls Try.prog 44 #[.pointer (some ⟨rb, 0, none⟩), .func (.func 45) #[] #[.pointer (some ⟨g1, 0, none⟩), .pointer (some ⟨g2, 0, none⟩)]] w (RetOwn w.heap.size (ks.filter (soB m (muteP now most))) w) := by
  have HC := Lib.hid (all_any w rb mb n m ks h hks hl)
  have HG := Lib.hid h
  have HKS := Lib.hid hks
  have HWF := Lib.hid hwf
  have HFN : Hid (∀ W, Below w.heap.size w W → ∀ v x t, m x = some t → TrV W v t → Calls Try.prog 45 #[v, .pointer (some ⟨g1, 0, none⟩), .pointer (some ⟨g2, 0, none⟩)] W (RetL (soB m (muteP now most) x) W)) := fun W hW v x t hx hv => by
    rw [soB_some hx]
    exact muteFn W v t hv g1 g2 now most ((hW.cell (p := ⟨g1, 0, none⟩) hg1).trans h1) ((hW.cell (p := ⟨g2, 0, none⟩) hg2).trans h2) (Nat.lt_of_lt_of_le hg1 hW.size) (Nat.lt_of_lt_of_le hg2 hW.size) (ht x t hx).1 hn
  obtain ⟨i3, hi3, hz30, hz31, hz32⟩ := info_parts Try.info3n
  obtain ⟨B, hB⟩ : ∃ B, w.heap.size = B := ⟨_, rfl⟩
  rw [hB] at HC HFN ⊢
  have HBE := Lib.hid hB
  obtain ⟨p, hp⟩ : ∃ p, soB m (muteP now most) = p := ⟨_, rfl⟩
  rw [hp] at HFN ⊢
  clear h hks hwf h1 h2 hg1 hg2 ht hn hB hp
  go_enter Try.func44, Try.ntmps44
  go_wp2_with fail
  refine HC.out.mono ?_; rintro e w1 ⟨v1, rfl, ho, hb⟩
  obtain ⟨A1, c1, hv1⟩ := own_slice ho
  subst hv1
  have HRK := Lib.hid (Rd.of_own ho)
  have HB1 := Lib.hid hb
  have HS1 : Hid (B ≤ w1.heap.size) := by have := hb.size; have := HBE.out; show B ≤ _; omega
  clear ho hb HC
  obtain ⟨B1, hB1⟩ : ∃ B1, w1.heap.size = B1 := ⟨_, rfl⟩
  have HBE1 := Lib.hid hB1
  rw [hB1] at HRK HS1
  clear hB1
  go_wp2_with fail
  go_loopw [5, 11] (fun va iv wr => ∃ (i : Nat) (o : List Int), i ≤ ks.length ∧ iv = .int .i64 i ∧ o.length ≤ i ∧ Hid (o = (ks.take i).filter p) ∧ Hid (wr.ownsRow B1 3 1 va o.length (ivals o)) ∧ Hid (Below B1 w1 wr)) (fun _ iv _ => ks.length - (intOf iv).toNat)
  case atStart => exact ⟨0, [], Nat.zero_le _, rfl, Nat.zero_le _, rfl, World.ownsRow_nil _ _ _ _, Below.refl _ _⟩
  case round =>
    obtain ⟨i, o, hi, rfl, hol, HOE, HO, HB⟩ := hrel
    obtain ⟨Av, cv, hv⟩ := own_slice HO.out
    subst hv
    have HSZ : Hid (B1 ≤ wr.heap.size) := by have := HB.out.size; have := HBE1.out; show B1 ≤ _; omega
    have HBW : Hid (Below B w wr) := HB1.out.trans (HB.out.mono HS1.out)
    by_cases hlt : i < ks.length
    · obtain ⟨b, o', hA, hbB, q0⟩ := (HRK.out.below HB.out (Nat.le_refl _)).at (i := i) (u := .int .i64 ks[i]) (ivals_get ks i hlt)
      subst hA
      have hid := HWF.out ks[i] (List.getElem_mem _)
      have HN : Hid ((ks.take (i + 1)).filter p = o ++ (if p ks[i] then [ks[i]] else [])) := by show _ = _; rw [filter_take p ks i hlt, HOE.out]
      have hsome := (HKS.out.mem ks[i]).1 (List.getElem_mem _)
      obtain ⟨t, ht⟩ := Option.isSome_iff_exists.1 hsome
      generalize ks[i] = x at *
      have hgr : Reg wr rb mb n m := HG.out.up (by have := HBE.out; rw [this]; exact HBW.out)
      have c0 := hgr.row.cell 0
      simp only [List.getElem?_toArray, List.getElem?_cons_zero] at c0
      obtain ⟨D, hown, hD⟩ := hgr.map
      obtain ⟨v, hv, hat⟩ := (hD x).2 t ht
      have HV := Lib.hid hv
      have HT := Lib.hid ht
      have HCL := Lib.hid (HFN.out wr HBW.out v x t ht hv)
      clear hv ht hsome hD hgr HOE
      go_wp2_with (first
        | (at_lookup; refine wpList_look _ rfl _ _ rfl mb n D rfl hown x rfl hid v hat ?_)
        | fail)
      refine HCL.out.mono ?_; rintro e w5 ⟨rfl, hb5⟩
      have HO5 := Lib.hid (own_below HO.out hb5)
      have HB5 : Hid (Below B1 w1 w5) := HB.out.trans (hb5.mono HSZ.out)
      have HSZ5 : Hid (B1 ≤ w5.heap.size) := Nat.le_trans HSZ.out hb5.size
      clear hb5 hown hat c0 HCL q0
      cases hc : p x with
      | false =>
        have HN2 : Hid (o = (ks.take (i + 1)).filter p) := by show _ = _; rw [HN.out, hc]; simp
        clear hc HN
        go_wp2_with fail
        go_roundw
        case rel => exact ⟨i + 1, o, by omega, by go_num, by omega, HN2, HO5, HB5⟩
        case measure => simp [intOf]; omega
      | true =>
        have HN2 : Hid (o ++ [x] = (ks.take (i + 1)).filter p) := by show _ = _; rw [HN.out, hc]; simp
        have HSN : Hid (ivals o ++ [.int .i64 x] = ivals (o ++ [x]) ∧ (o ++ [x]).length = o.length + 1) := ⟨ivals_snoc' o x, by simp⟩
        clear hc HN
        go_wp2_with (first
          | (at_builtin; refine wpList_append_own _ rfl (.tmp 23) (.tmp 25) 40 rfl B1 3 i3 (.int .i64 0) 1 8 Try.underlying40 hi3 hz30 hz31 hz32 rfl (by decide) _ _ _ rfl (HO5.out.alloc _) ⟨w5.heap.size, 0, none⟩ 1 1 [.int .i64 x] rfl rfl (one_new w5 3 _) (one_cell rfl) (by unfold maxLen; omega) (by omega) (by have := HSZ5.out; simp; omega) ?_; intro v7 w7 hown7 hgrow7 _)
          | fail)
        rw [HSN.out.1] at hown7
        have HB7 : Hid (Below B1 w1 w7) := (HB5.out.alloc HSZ5.out _).grown hgrow7 (by simp; have := HSZ5.out; omega) (fun j hj => (HO5.out.lt j hj).1)
        have HO7 : Hid (w7.ownsRow B1 3 1 v7 (o ++ [x]).length (ivals (o ++ [x]))) := by rw [HSN.out.2]; exact hown7
        go_roundw
        case rel => exact ⟨i + 1, o ++ [x], by omega, by go_num, by rw [HSN.out.2]; omega, HN2, HO7, HB7⟩
        case measure => simp [intOf]; omega
    · have HE : Hid (o = ks.filter p) := by show _ = _; rw [HOE.out, List.take_of_length_le (by omega)]
      go_wp2_with fail
      go_ret
      rw [← HE.out]
      exact ⟨_, rfl, own_base HO.out HS1.out, HBW.out⟩

set_option maxHeartbeats 8000000 in
theorem those_doubt (w : World) (rb mb n : Nat) (m : Mp) (ks : List Int) (h : Reg w rb mb n m) (hks : Ks ks m) (hl : ks.length ≤ 1000000) (hwf : Wf ks) (g1 g2 : Nat) (now most : Int) (h1 : w.cell? ⟨g1, 0, none⟩ = some (.int .i64 now)) (h2 : w.cell? ⟨g2, 0, none⟩ = some (.int .i64 most)) (hg1 : g1 < w.heap.size) (hg2 : g2 < w.heap.size) (ht : Timed m) (hn : Tm now) :
    Calls Try.prog 44 #[.pointer (some ⟨rb, 0, none⟩), .func (.func 47) #[] #[.pointer (some ⟨g1, 0, none⟩), .pointer (some ⟨g2, 0, none⟩)]] w (RetOwn w.heap.size (ks.filter (soB m (doubtP now most))) w) := by
  have HC := Lib.hid (all_any w rb mb n m ks h hks hl)
  have HG := Lib.hid h
  have HKS := Lib.hid hks
  have HWF := Lib.hid hwf
  have HFN : Hid (∀ W, Below w.heap.size w W → ∀ v x t, m x = some t → TrV W v t → Calls Try.prog 47 #[v, .pointer (some ⟨g1, 0, none⟩), .pointer (some ⟨g2, 0, none⟩)] W (RetL (soB m (doubtP now most) x) W)) := fun W hW v x t hx hv => by
    rw [soB_some hx]
    exact doubtFn W v t hv g1 g2 now most ((hW.cell (p := ⟨g1, 0, none⟩) hg1).trans h1) ((hW.cell (p := ⟨g2, 0, none⟩) hg2).trans h2) (Nat.lt_of_lt_of_le hg1 hW.size) (Nat.lt_of_lt_of_le hg2 hW.size) (ht x t hx).2 hn
  obtain ⟨i3, hi3, hz30, hz31, hz32⟩ := info_parts Try.info3n
  obtain ⟨B, hB⟩ : ∃ B, w.heap.size = B := ⟨_, rfl⟩
  rw [hB] at HC HFN ⊢
  have HBE := Lib.hid hB
  obtain ⟨p, hp⟩ : ∃ p, soB m (doubtP now most) = p := ⟨_, rfl⟩
  rw [hp] at HFN ⊢
  clear h hks hwf h1 h2 hg1 hg2 ht hn hB hp
  go_enter Try.func44, Try.ntmps44
  go_wp2_with fail
  refine HC.out.mono ?_; rintro e w1 ⟨v1, rfl, ho, hb⟩
  obtain ⟨A1, c1, hv1⟩ := own_slice ho
  subst hv1
  have HRK := Lib.hid (Rd.of_own ho)
  have HB1 := Lib.hid hb
  have HS1 : Hid (B ≤ w1.heap.size) := by have := hb.size; have := HBE.out; show B ≤ _; omega
  clear ho hb HC
  obtain ⟨B1, hB1⟩ : ∃ B1, w1.heap.size = B1 := ⟨_, rfl⟩
  have HBE1 := Lib.hid hB1
  rw [hB1] at HRK HS1
  clear hB1
  go_wp2_with fail
  go_loopw [5, 11] (fun va iv wr => ∃ (i : Nat) (o : List Int), i ≤ ks.length ∧ iv = .int .i64 i ∧ o.length ≤ i ∧ Hid (o = (ks.take i).filter p) ∧ Hid (wr.ownsRow B1 3 1 va o.length (ivals o)) ∧ Hid (Below B1 w1 wr)) (fun _ iv _ => ks.length - (intOf iv).toNat)
  case atStart => exact ⟨0, [], Nat.zero_le _, rfl, Nat.zero_le _, rfl, World.ownsRow_nil _ _ _ _, Below.refl _ _⟩
  case round =>
    obtain ⟨i, o, hi, rfl, hol, HOE, HO, HB⟩ := hrel
    obtain ⟨Av, cv, hv⟩ := own_slice HO.out
    subst hv
    have HSZ : Hid (B1 ≤ wr.heap.size) := by have := HB.out.size; have := HBE1.out; show B1 ≤ _; omega
    have HBW : Hid (Below B w wr) := HB1.out.trans (HB.out.mono HS1.out)
    by_cases hlt : i < ks.length
    · obtain ⟨b, o', hA, hbB, q0⟩ := (HRK.out.below HB.out (Nat.le_refl _)).at (i := i) (u := .int .i64 ks[i]) (ivals_get ks i hlt)
      subst hA
      have hid := HWF.out ks[i] (List.getElem_mem _)
      have HN : Hid ((ks.take (i + 1)).filter p = o ++ (if p ks[i] then [ks[i]] else [])) := by show _ = _; rw [filter_take p ks i hlt, HOE.out]
      have hsome := (HKS.out.mem ks[i]).1 (List.getElem_mem _)
      obtain ⟨t, ht⟩ := Option.isSome_iff_exists.1 hsome
      generalize ks[i] = x at *
      have hgr : Reg wr rb mb n m := HG.out.up (by have := HBE.out; rw [this]; exact HBW.out)
      have c0 := hgr.row.cell 0
      simp only [List.getElem?_toArray, List.getElem?_cons_zero] at c0
      obtain ⟨D, hown, hD⟩ := hgr.map
      obtain ⟨v, hv, hat⟩ := (hD x).2 t ht
      have HV := Lib.hid hv
      have HT := Lib.hid ht
      have HCL := Lib.hid (HFN.out wr HBW.out v x t ht hv)
      clear hv ht hsome hD hgr HOE
      go_wp2_with (first
        | (at_lookup; refine wpList_look _ rfl _ _ rfl mb n D rfl hown x rfl hid v hat ?_)
        | fail)
      refine HCL.out.mono ?_; rintro e w5 ⟨rfl, hb5⟩
      have HO5 := Lib.hid (own_below HO.out hb5)
      have HB5 : Hid (Below B1 w1 w5) := HB.out.trans (hb5.mono HSZ.out)
      have HSZ5 : Hid (B1 ≤ w5.heap.size) := Nat.le_trans HSZ.out hb5.size
      clear hb5 hown hat c0 HCL q0
      cases hc : p x with
      | false =>
        have HN2 : Hid (o = (ks.take (i + 1)).filter p) := by show _ = _; rw [HN.out, hc]; simp
        clear hc HN
        go_wp2_with fail
        go_roundw
        case rel => exact ⟨i + 1, o, by omega, by go_num, by omega, HN2, HO5, HB5⟩
        case measure => simp [intOf]; omega
      | true =>
        have HN2 : Hid (o ++ [x] = (ks.take (i + 1)).filter p) := by show _ = _; rw [HN.out, hc]; simp
        have HSN : Hid (ivals o ++ [.int .i64 x] = ivals (o ++ [x]) ∧ (o ++ [x]).length = o.length + 1) := ⟨ivals_snoc' o x, by simp⟩
        clear hc HN
        go_wp2_with (first
          | (at_builtin; refine wpList_append_own _ rfl (.tmp 23) (.tmp 25) 40 rfl B1 3 i3 (.int .i64 0) 1 8 Try.underlying40 hi3 hz30 hz31 hz32 rfl (by decide) _ _ _ rfl (HO5.out.alloc _) ⟨w5.heap.size, 0, none⟩ 1 1 [.int .i64 x] rfl rfl (one_new w5 3 _) (one_cell rfl) (by unfold maxLen; omega) (by omega) (by have := HSZ5.out; simp; omega) ?_; intro v7 w7 hown7 hgrow7 _)
          | fail)
        rw [HSN.out.1] at hown7
        have HB7 : Hid (Below B1 w1 w7) := (HB5.out.alloc HSZ5.out _).grown hgrow7 (by simp; have := HSZ5.out; omega) (fun j hj => (HO5.out.lt j hj).1)
        have HO7 : Hid (w7.ownsRow B1 3 1 v7 (o ++ [x]).length (ivals (o ++ [x]))) := by rw [HSN.out.2]; exact hown7
        go_roundw
        case rel => exact ⟨i + 1, o ++ [x], by omega, by go_num, by rw [HSN.out.2]; omega, HN2, HO7, HB7⟩
        case measure => simp [intOf]; omega
    · have HE : Hid (o = ks.filter p) := by show _ = _; rw [HOE.out, List.take_of_length_le (by omega)]
      go_wp2_with fail
      go_ret
      rw [← HE.out]
      exact ⟨_, rfl, own_base HO.out HS1.out, HBW.out⟩

end Go.Proofs.Ytifcgkpannlnnaa
