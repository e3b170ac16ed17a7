/- The law TimerPlays, few timers: its walk. -/
import Derived.Test.YtkhceigfmaajdaaT19
namespace Go.Proofs.Ytkhceigfmaajdaa.timerPlays
open Go.RowKit
set_option linter.unusedVariables false
set_option maxRecDepth 100000

/-- What the walk keeps: the program's table, the document's list. -/
structure PS (w0 W : World) (B0 g : Nat) (vm : Value) (l ms : List (Int × Int)) : Prop where
  ts : TS w0 W B0 g l
  doc : Ms W vm ms
  perm : l.Perm ms
theorem PS.call {w0 W W' : World} {B0 g : Nat} {vm : Value} {l ms : List (Int × Int)} (h : PS w0 W B0 g vm l ms) (hb : Below W.heap.size W W') : PS w0 W' B0 g vm l ms := ⟨h.ts.call hb, h.doc.up hb, h.perm⟩
theorem PS.len {w0 W : World} {B0 g : Nat} {vm : Value} {l ms : List (Int × Int)} (h : PS w0 W B0 g vm l ms) : ms.length ≤ 32 := by rw [← h.perm.length_eq]; exact h.ts.good.len
theorem PS.ids {w0 W : World} {B0 g : Nat} {vm : Value} {l ms : List (Int × Int)} (h : PS w0 W B0 g vm l ms) : (ms.map Prod.fst).Nodup := ids_perm h.perm h.ts.good.ids
theorem PS.fit {w0 W : World} {B0 g : Nat} {vm : Value} {l ms : List (Int × Int)} (h : PS w0 W B0 g vm l ms) : Fit ms := fit_perm h.perm h.ts.fit
theorem keep3 {W w1 : World} {b : Nat} {o0 o1 o2 : Nat} {v0 v1 v2 : Value} (hl : b < W.heap.size) (h : W.cell? ⟨b, o0, none⟩ = some v0 ∧ W.cell? ⟨b, o1, none⟩ = some v1 ∧ W.cell? ⟨b, o2, none⟩ = some v2) (hb : Below W.drew.heap.size W.drew w1) :
    w1.cell? ⟨b, o0, none⟩ = some v0 ∧ w1.cell? ⟨b, o1, none⟩ = some v1 ∧ w1.cell? ⟨b, o2, none⟩ = some v2 :=
  ⟨(hb.cell (p := ⟨b, o0, none⟩) hl).trans h.1, (hb.cell (p := ⟨b, o1, none⟩) hl).trans h.2.1, (hb.cell (p := ⟨b, o2, none⟩) hl).trans h.2.2⟩

set_option maxHeartbeats 8000000 in
theorem plays_few (a0 : Option Addr) (len0 cap0 : Nat) (z0 : List (Nat × Int × Int)) (w : World) (w0 : z0.length = len0 ∧ Acts w (.slice a0 len0 cap0) z0 ∧ (∀ t ∈ z0, ActOk t) ∧ len0 ≤ 9223372036854775807) (hbig : ¬ 100 < len0) :
    Calls Try.prog 3 #[.slice a0 len0 cap0, .bool true] w fun e w' => e = .returned (.bool true) ∧ Below w.heap.size w w' := by
  obtain ⟨hzl, hac, hok, hl63⟩ := w0
  have HAC := Lib.hid hac; have HOK := Lib.hid hok; have HZL := Lib.hid hzl
  clear hac hok hzl
  have hbig2 : ¬ (100 : Int) < (len0 : Int) := by omega
  go_enter Try.func3, Try.ntmps3
  go_wp2_with fail
  refine (three_any w).mono ?_; rintro e x1 ⟨rfl, hb1⟩
  have HB1 := Lib.hid hb1
  clear hb1
  go_wp2_with fail
  refine (ts_new w x1 _ HB1.out.size HB1.out).mono ?_; rintro e x2 ⟨g, rfl, ht2, -⟩
  have HP2 : Hid (PS w x2 w.heap.size g (.slice none 0 0) [] []) := ⟨ht2, Ms.nil _, List.Perm.refl _⟩
  clear ht2
  go_wp2_with fail
  go_loopw [6, 7] (fun vm t wr => ∃ (i : Nat) (l ms : List (Int × Int)), i ≤ len0 ∧ t = .int .i64 i ∧ Hid (PS w wr w.heap.size g vm l ms)) (fun _ t _ => len0 - (intOf t).toNat)
  case atStart => exact ⟨0, [], [], Nat.zero_le _, rfl, HP2.out⟩
  case round =>
    obtain ⟨i, l, ms, hi, rfl, HP⟩ := hrel
    obtain ⟨Am, cm, hAm, -⟩ := HP.out.doc.slice
    subst hAm
    by_cases hlt : i < len0
    · have hiz : i < z0.length := by have := HZL.out; omega
      obtain ⟨b, o, hA, hb, c0, c1, c2⟩ := HAC.out.at i hiz
      subst hA
      have HOKI := Lib.hid (HOK.out z0[i] (List.getElem_mem _))
      have e0 := (HP.out.ts.below.cell (p := ⟨b, o + i * 3, none⟩) hb).trans c0
      have e1 := (HP.out.ts.below.cell (p := ⟨b, o + i * 3 + 1, none⟩) hb).trans c1
      have e2 := (HP.out.ts.below.cell (p := ⟨b, o + i * 3 + 2, none⟩) hb).trans c2
      have HBL : Hid (b < wr.heap.size) := Nat.lt_of_lt_of_le hb HP.out.ts.size
      generalize z0[i] = z at *
      obtain ⟨d, x, y⟩ := z
      simp only at e0 e1 e2 c2
      have HXR : Hid ((-9223372036854775808 ≤ y ∧ y ≤ 9223372036854775807)) := HOKI.out.2.2
      obtain ⟨s, hs⟩ : ∃ s, s = d % 6 := ⟨_, rfl⟩
      have hs6 : s < 6 := by omega
      have hst : (d : Int).tmod 6 = (s : Int) := by rw [Int.tmod_eq_emod_of_nonneg (by omega)]; omega
      have hse : (d : Int) % 6 = (s : Int) := by omega
      obtain ⟨id, hid⟩ : ∃ id, nearN x true = id := ⟨_, rfl⟩
      have HID := Lib.hid hid
      have s0 : wr.cell? ⟨b, o + i * 3, none⟩ = some (.int .u8 (d : Int)) ∧ wr.cell? ⟨b, o + i * 3 + 1, none⟩ = some (.int .i64 x) ∧ wr.cell? ⟨b, o + i * 3 + 2, none⟩ = some (.int .i64 y) := ⟨e0, e1, e2⟩
      have hi2 : (i : Int) < (len0 : Int) := by omega
      have hi3 : (0 : Int) ≤ (i : Int) := by omega
      have HCW := Lib.hid c2
      clear c0 c1 c2 e0 e1 e2 hs hid
      go_upto_region 8 with (fail)
      go_region_held3 (fun w' => w'.cell? ⟨b, o + i * 3, none⟩ = some (.int .u8 (d : Int)) ∧ w'.cell? ⟨b, o + i * 3 + 1, none⟩ = some (.int .i64 x) ∧ w'.cell? ⟨b, o + i * 3 + 2, none⟩ = some (.int .i64 y)) (first | exact s0 | exact s1) (first | (go_at_call 11; (with_reducible refine (near_any _ (d : Int) x y true).mono ?_); rintro e x3 ⟨rfl, hb3⟩; have HP3 := Lib.hid ((HP.out.call (Below.refl _ _).drew).call hb3); have s1 := keep3 HBL.out s0 hb3; rw [HID.out]; clear hb3))
      obtain ⟨e0, e1, e2⟩ := s1
      clear s0 HP
      have HAR0 := Lib.hid (tmod30 HXR.out.1 HXR.out.2)
      go_upto_block 2 with (fail)
      generalize y.tmod 30 = at_ at *
      have HAR := HAR0
      clear HAR0
      go_cut [6, 10, 11, 12, 13, 14, 15, 16, 17, 61, 79, 93] (fun v6 _ _ _ _ _ _ _ _ _ _ _ wx => ∃ l' ms', Hid (PS w wx w.heap.size g v6 l' ms'))
      case first =>
        rcases (by omega : s = 0 ∨ s = 1 ∨ s = 2 ∨ s = 3 ∨ s = 4 ∨ s = 5) with hk | hk | hk | hk | hk | hk
        · have b0 : ((s : Int) == 0) = true := by simp [hk]
          have b1 : ((s : Int) == 1) = false := by rw [beq_eq_false_iff_ne]; omega
          have b2 : ((s : Int) == 2) = false := by rw [beq_eq_false_iff_ne]; omega
          have b3 : ((s : Int) == 3) = false := by rw [beq_eq_false_iff_ne]; omega
          have b4 : ((s : Int) == 4) = false := by rw [beq_eq_false_iff_ne]; omega
          clear hk
          go_wp2_with fail
          refine (refStart_any x3 _ ms id at_ HP3.out.doc HP3.out.len HP3.out.ids).mono ?_; rintro e x4 ⟨v4, rfl, hm4, hb4⟩
          rw [← startE_perm HP3.out.perm]
          have HT4 := Lib.hid (HP3.out.ts.call hb4)
          have HM4 := Lib.hid hm4
          obtain ⟨A4, c4, hA4, -⟩ := hm4.slice
          subst hA4
          clear hb4 hm4
          go_wp2_with fail
          refine (ts_start w x4 _ g l id at_ HT4.out HAR.out.1 HAR.out.2).mono ?_; rintro e x5 ⟨rfl, ht5, hk5⟩
          have HX : Hid (PS w x5 w.heap.size g (.slice A4 (startR ms id at_).length c4) (startL l id at_) (startR ms id at_)) := ⟨ht5, HM4.out.kt hk5, start_rel HP3.out.perm _ _⟩
          clear ht5 hk5
          obtain ⟨ee, hee⟩ : ∃ ee, startE l id = ee := ⟨_, rfl⟩
          rw [hee]
          have hq : (ee == ee) = true := by simp
          clear hee
          go_wp2_with fail
          go_meet
          case rel => exact ⟨_, _, HX⟩
        · have b0 : ((s : Int) == 0) = false := by rw [beq_eq_false_iff_ne]; omega
          have b1 : ((s : Int) == 1) = true := by simp [hk]
          have b2 : ((s : Int) == 2) = false := by rw [beq_eq_false_iff_ne]; omega
          have b3 : ((s : Int) == 3) = false := by rw [beq_eq_false_iff_ne]; omega
          have b4 : ((s : Int) == 4) = false := by rw [beq_eq_false_iff_ne]; omega
          clear hk
          go_wp2_with fail
          refine (refStart_any x3 _ ms id at_ HP3.out.doc HP3.out.len HP3.out.ids).mono ?_; rintro e x4 ⟨v4, rfl, hm4, hb4⟩
          rw [← startE_perm HP3.out.perm]
          have HT4 := Lib.hid (HP3.out.ts.call hb4)
          have HM4 := Lib.hid hm4
          obtain ⟨A4, c4, hA4, -⟩ := hm4.slice
          subst hA4
          clear hb4 hm4
          go_wp2_with fail
          refine (ts_start w x4 _ g l id at_ HT4.out HAR.out.1 HAR.out.2).mono ?_; rintro e x5 ⟨rfl, ht5, hk5⟩
          have HX : Hid (PS w x5 w.heap.size g (.slice A4 (startR ms id at_).length c4) (startL l id at_) (startR ms id at_)) := ⟨ht5, HM4.out.kt hk5, start_rel HP3.out.perm _ _⟩
          clear ht5 hk5
          obtain ⟨ee, hee⟩ : ∃ ee, startE l id = ee := ⟨_, rfl⟩
          rw [hee]
          have hq : (ee == ee) = true := by simp
          clear hee
          go_wp2_with fail
          go_meet
          case rel => exact ⟨_, _, HX⟩
        · have b0 : ((s : Int) == 0) = false := by rw [beq_eq_false_iff_ne]; omega
          have b1 : ((s : Int) == 1) = false := by rw [beq_eq_false_iff_ne]; omega
          have b2 : ((s : Int) == 2) = true := by simp [hk]
          have b3 : ((s : Int) == 3) = false := by rw [beq_eq_false_iff_ne]; omega
          have b4 : ((s : Int) == 4) = false := by rw [beq_eq_false_iff_ne]; omega
          clear hk
          go_wp2_with fail
          refine (refStart_any x3 _ ms id at_ HP3.out.doc HP3.out.len HP3.out.ids).mono ?_; rintro e x4 ⟨v4, rfl, hm4, hb4⟩
          rw [← startE_perm HP3.out.perm]
          have HT4 := Lib.hid (HP3.out.ts.call hb4)
          have HM4 := Lib.hid hm4
          obtain ⟨A4, c4, hA4, -⟩ := hm4.slice
          subst hA4
          clear hb4 hm4
          go_wp2_with fail
          refine (ts_start w x4 _ g l id at_ HT4.out HAR.out.1 HAR.out.2).mono ?_; rintro e x5 ⟨rfl, ht5, hk5⟩
          have HX : Hid (PS w x5 w.heap.size g (.slice A4 (startR ms id at_).length c4) (startL l id at_) (startR ms id at_)) := ⟨ht5, HM4.out.kt hk5, start_rel HP3.out.perm _ _⟩
          clear ht5 hk5
          obtain ⟨ee, hee⟩ : ∃ ee, startE l id = ee := ⟨_, rfl⟩
          rw [hee]
          have hq : (ee == ee) = true := by simp
          clear hee
          go_wp2_with fail
          go_meet
          case rel => exact ⟨_, _, HX⟩
        · have b0 : ((s : Int) == 0) = false := by rw [beq_eq_false_iff_ne]; omega
          have b1 : ((s : Int) == 1) = false := by rw [beq_eq_false_iff_ne]; omega
          have b2 : ((s : Int) == 2) = false := by rw [beq_eq_false_iff_ne]; omega
          have b3 : ((s : Int) == 3) = true := by simp [hk]
          have b4 : ((s : Int) == 4) = false := by rw [beq_eq_false_iff_ne]; omega
          clear hk
          go_wp2_with fail
          refine (refStop_any x3 _ ms id HP3.out.doc (by have := HP3.out.len; omega) HP3.out.ids).mono ?_; rintro e x4 ⟨v4, rfl, hm4, hb4⟩
          rw [← has_perm HP3.out.perm]
          have HT4 := Lib.hid (HP3.out.ts.call hb4)
          have HM4 := Lib.hid hm4
          obtain ⟨A4, c4, hA4, -⟩ := hm4.slice
          subst hA4
          clear hb4 hm4
          go_wp2_with fail
          refine (ts_stop w x4 _ g l id HT4.out).mono ?_; rintro e x5 ⟨rfl, ht5, hk5⟩
          have HX : Hid (PS w x5 w.heap.size g (.slice A4 (stopL ms id).length c4) (stopL l id) (stopL ms id)) := ⟨ht5, HM4.out.kt hk5, stop_rel HP3.out.perm _⟩
          clear ht5 hk5
          obtain ⟨ee, hee⟩ : ∃ ee, hasL l id = ee := ⟨_, rfl⟩
          rw [hee]
          have hq : (ee == ee) = true := by simp
          clear hee
          go_wp2_with fail
          go_meet
          case rel => exact ⟨_, _, HX⟩
        · have b0 : ((s : Int) == 0) = false := by rw [beq_eq_false_iff_ne]; omega
          have b1 : ((s : Int) == 1) = false := by rw [beq_eq_false_iff_ne]; omega
          have b2 : ((s : Int) == 2) = false := by rw [beq_eq_false_iff_ne]; omega
          have b3 : ((s : Int) == 3) = false := by rw [beq_eq_false_iff_ne]; omega
          have b4 : ((s : Int) == 4) = true := by simp [hk]
          clear hk
          go_wp2_with fail
          refine (ts_ended w x3 _ g l at_ HP3.out.ts).mono ?_; rintro e x4 ⟨v4, rfl, ho4, ht4, hk4⟩
          have HG := Lib.hid HP3.out.ts.good
          have HR0 := Lib.hid (Round.start (now := at_) HP3.out.ts.good HP3.out.perm)
          obtain ⟨nF, hnF⟩ : ∃ n, n = (endL l at_).length := ⟨_, rfl⟩
          rw [← hnF] at ho4
          have HNF := Lib.hid hnF
          have HO4 := Lib.hid ho4; have HT4 := Lib.hid ht4
          have HM4 := Lib.hid (HP3.out.doc.kt hk4)
          have hnF2 : nF ≤ 32 := by
            have h1 := HG.out.len
            have h2 : (endL l at_).length ≤ l.length := List.length_filter_le _ _
            omega
          obtain ⟨A4, c4, hA4⟩ := own_slice ho4
          subst hA4
          clear ho4 ht4 hk4 hnF
          go_wp2_with fail
          go_loopw [6, 15] (fun vm t wr => ∃ (k : Nat) (ms : List (Int × Int)), k ≤ nF ∧ t = .int .i64 k ∧ Hid (Ms wr vm ms ∧ Round l ms at_ k ∧ TS w wr w.heap.size g (restL l at_) ∧ wr.ownsRow w.heap.size 3 1 (.slice A4 nF c4) nF (ivals ((endL l at_).map Prod.fst)))) (fun _ t _ => nF - (intOf t).toNat)
          case atStart => exact ⟨0, ms, Nat.zero_le _, rfl, HM4.out, HR0.out, HT4.out, HO4.out⟩
          case round =>
            obtain ⟨k, mk, hk, rfl, HJ⟩ := hrel
            obtain ⟨hm, hrd, ht, ho⟩ := HJ.out
            have HMK := Lib.hid hm; have HRD := Lib.hid hrd; have HTK := Lib.hid ht; have HOK4 := Lib.hid ho
            obtain ⟨Ak, ck, hAk, -⟩ := hm.slice
            subst hAk
            clear hm hrd ht ho HJ
            go_wp2_with fail
            refine (refEnded_any wr _ mk at_ HMK.out).mono ?_; rintro e x5 ⟨r, hr, rfl, n5, rfl⟩
            have HMK5 := Lib.hid (HMK.out.up (Below.drewN (Below.refl wr.heap.size wr) n5))
            have HTK5 := Lib.hid (HTK.out.call (Below.drewN (Below.refl wr.heap.size wr) n5))
            have HOK5 := Lib.hid (own_below HOK4.out (Below.drewN (Below.refl wr.heap.size wr) n5))
            generalize wr.drewN n5 = x5 at *
            by_cases hkn : k < nF
            · have hkE : k < (endL l at_).length := by have := HNF.out; omega
              obtain ⟨hr1, hr2⟩ := HRD.out.next HG.out hr hkE
              have HG2 := Lib.hid (HRD.out.good HG.out)
              have hkm : k < ((endL l at_).map Prod.fst).length := by rw [List.length_map]; exact hkE
              obtain ⟨bf, of, hAf, -, q0⟩ := (Rd.of_own HOK5.out).at (ivals_get _ k hkm)
              subst hAf
              rw [List.getElem_map] at q0
              obtain ⟨who, hwho⟩ : ∃ u, (endL l at_)[k] = u := ⟨_, rfl⟩
              rw [hwho] at hr1 hr2 q0
              have HR2 := Lib.hid hr2
              subst hr1
              obtain ⟨u0, u1⟩ := who
              have hu : (u0 == u0) = true := by simp
              simp only [Option.map_some, Option.getD_some, Option.isSome_some] at *
              have hk2 : (k : Int) < (nF : Int) := by omega
              have hk3 : (0 : Int) ≤ (k : Int) := by omega
              have hk4 : ¬ (nF : Int) ≤ (k : Int) := by omega
              clear hr hr2 hwho HRD HMK HTK HOK4
              go_wp2_with fail
              refine (refStop_any x5 _ mk u0 HMK5.out (by have := HG2.out.2; omega) HG2.out.1).mono ?_; rintro e x6 ⟨v6, rfl, hm6, hb6⟩
              have HNX : Hid (Ms x6 v6 (stopL mk u0) ∧ Round l (stopL mk u0) at_ (k + 1) ∧ TS w x6 w.heap.size g (restL l at_) ∧ x6.ownsRow w.heap.size 3 1 (.slice (some ⟨bf, of, none⟩) nF c4) nF (ivals ((endL l at_).map Prod.fst))) := ⟨hm6, HR2.out, HTK5.out.call hb6, own_below HOK5.out hb6⟩
              obtain ⟨A6, c6, hA6, -⟩ := hm6.slice
              subst hA6
              clear hm6 hb6 q0 HMK5 HTK5 HOK5
              go_wp2_with fail
              go_roundw
              case rel => exact ⟨k + 1, _, by omega, by go_num, HNX⟩
              case measure => simp [intOf]; omega
            · have hkE : ¬ k < (endL l at_).length := by have := HNF.out; omega
              obtain ⟨hr1, hr2⟩ := HRD.out.stop HG.out hr hkE
              have HX : Hid (PS w x5 w.heap.size g (.slice Ak mk.length ck) (restL l at_) mk) := ⟨HTK5.out, HMK5.out, hr2⟩
              subst hr1
              simp only [Option.map_none, Option.getD_none, Option.isSome_none] at *
              have hke : ((k : Int) == (nF : Int)) = true := by rw [beq_iff_eq]; omega
              clear hr hr2
              go_wp2_with fail
              go_meet
              case rel => exact ⟨_, _, HX⟩
        · have b0 : ((s : Int) == 0) = false := by rw [beq_eq_false_iff_ne]; omega
          have b1 : ((s : Int) == 1) = false := by rw [beq_eq_false_iff_ne]; omega
          have b2 : ((s : Int) == 2) = false := by rw [beq_eq_false_iff_ne]; omega
          have b3 : ((s : Int) == 3) = false := by rw [beq_eq_false_iff_ne]; omega
          have b4 : ((s : Int) == 4) = false := by rw [beq_eq_false_iff_ne]; omega
          clear hk
          go_wp2_with fail
          go_meet
          case rel => exact ⟨_, _, HP3⟩
      case rest =>
        obtain ⟨l', ms', HX⟩ := hcut
        obtain ⟨A6, c6, hA6, -⟩ := HX.out.doc.slice
        subst hA6
        have HLR := Lib.hid (fun now => left_rel HX.out.perm HX.out.ts.good.ids id now)
        have HLE : Hid ((ms'.length : Int) = (l'.length : Int)) := by show _ = _; rw [HX.out.perm.length_eq]
        clear HP3
        go_wp2_with fail
        refine (ts_left w wc _ g l' id at_ HX.out.ts HAR.out.1 HAR.out.2).mono ?_; rintro e x6 ⟨rfl, hb6⟩
        have HX6 := Lib.hid (HX.out.call hb6)
        clear hb6
        obtain ⟨p1, hp1⟩ : ∃ u, (leftL l' id at_).1 = u := ⟨_, rfl⟩
        obtain ⟨p2, hp2⟩ : ∃ u, (leftL l' id at_).2 = u := ⟨_, rfl⟩
        rw [hp1, hp2]
        go_wp2_with fail
        refine (refLeft_any x6 _ ms' id at_ HX6.out.doc HX6.out.len HX6.out.ids HX6.out.fit HAR.out.1).mono ?_; rintro e w' ⟨rfl, rfl⟩
        rw [HLR.out, hp1, hp2]
        clear hp1 hp2
        have e6 := (HX6.out.ts.below.cell (p := ⟨b, o + i * 3 + 2, none⟩) hb).trans HCW.out
        go_wp2_with fail
        refine (ts_left w x6 _ g l' id y HX6.out.ts HXR.out.1 HXR.out.2).mono ?_; rintro e x7 ⟨rfl, hb7⟩
        have HX7 := Lib.hid (HX6.out.call hb7)
        clear hb7 e6
        have e7 := (HX7.out.ts.below.cell (p := ⟨b, o + i * 3 + 2, none⟩) hb).trans HCW.out
        obtain ⟨q1, hq1⟩ : ∃ u, (leftL l' id y).1 = u := ⟨_, rfl⟩
        obtain ⟨q2, hq2⟩ : ∃ u, (leftL l' id y).2 = u := ⟨_, rfl⟩
        rw [hq1, hq2]
        go_wp2_with fail
        refine (refLeft_any x7 _ ms' id y HX7.out.doc HX7.out.len HX7.out.ids HX7.out.fit HXR.out.1).mono ?_; rintro e w' ⟨rfl, rfl⟩
        rw [HLR.out, hq1, hq2]
        clear hq1 hq2 e7
        have t1 : (p1 == p1) = true := by simp
        have t2 : (p2 == p2) = true := by simp
        have t3 : (q1 == q1) = true := by simp
        have t4 : (q2 == q2) = true := by simp
        go_wp2_with fail
        refine (ts_len w x7 _ g l' HX7.out.ts).mono ?_; rintro e w' ⟨rfl, rfl⟩
        rw [← HLE.out]
        have t5 : ((ms'.length : Int) == (ms'.length : Int)) = true := by simp
        go_wp2_with fail
        go_roundw
        case rel => exact ⟨i + 1, l', ms', by omega, by go_num, HX7⟩
        case measure => simp [intOf]; omega
    · go_wp2_with fail
      go_ret
      exact ⟨rfl, HP.out.ts.below⟩

end Go.Proofs.Ytkhceigfmaajdaa.timerPlays
