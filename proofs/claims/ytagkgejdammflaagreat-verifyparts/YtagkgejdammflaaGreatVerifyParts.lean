/-
  PROVED: for every input the law VerifyParts returns true and leaves its arguments as they were: any lists as parts: the program judges as the document does. No condition.
-/
import Derived.Test.YtagkgejdammflaaGreatRows
import Derived.Test.YtagkgejdammflaaGreatV36
import Derived.Test.YtagkgejdammflaaGreatV33
import Derived.Test.YtagkgejdammflaaGreatFull
import Derived.WalkKit
import Derived.ProofKit
import Derived.OpenShut
import Derived.ShutString
import Derived.ChangeOld
import Derived.Below
namespace Go.Proofs.YtagkgejdammflaaGreat.verifyParts
open Go.ChangeShapes Go.WideShapes Go.ChangeAt Go.RowKit
open Go.ChangeMaps (open_string shut_string)
set_option linter.unusedVariables false
set_option maxRecDepth 100000

theorem own : ownKnob Tryz.prog.godebug = none := by kernel_rfl
theorem laidOut : laidOutB Tryz.prog = true := by kernel_rfl

set_option maxHeartbeats 8000000 in
theorem walk (d0 : Dr) (vr0 : Value) (r1 : Value) (rows1 : List (List Int)) (w : World) (w0 : DrOk d0 ∧ BRows w w.heap.size vr0 d0.routes ∧ d0.routes.length ≤ 9223372036854775807 ∧ ∀ r ∈ d0.routes, r.length ≤ 9223372036854775807) (w1 : IRows w w.heap.size r1 rows1 ∧ rows1.length ≤ 9223372036854775807 ∧ (∀ r ∈ rows1, r.length ≤ 9223372036854775807) ∧ ∀ r ∈ rows1, ∀ y ∈ r, (-128 ≤ y ∧ y ≤ 127)) :
    Calls Tryz.prog 8 #[drV d0 vr0, r1] w fun e w' => e = .returned (.bool true) ∧ Below w.heap.size w w' := by
  obtain ⟨hrs, -, -, hrb⟩ := w1
  obtain ⟨a1, cap1, hv1⟩ : ∃ A c, r1 = .slice A rows1.length c := by
    obtain ⟨vs, ⟨A, c, e, _⟩, hl, _⟩ := hrs; exact ⟨A, c, by rw [e, hl]⟩
  subst hv1
  obtain ⟨rows, hrows⟩ : ∃ r, r = rows1 := ⟨_, rfl⟩
  rw [← hrows] at hrs hrb ⊢
  clear hrows
  have HRS := Lib.hid hrs
  have HRB := Lib.hid hrb
  clear hrs hrb
  obtain ⟨hd, hbr, hl, hrl⟩ := w0
  obtain ⟨Ar, kr, cr, hvr⟩ : ∃ A k c, vr0 = .slice A k c := by obtain ⟨vs, ⟨A, c, e, _⟩, _⟩ := hbr; exact ⟨A, _, c, e⟩
  subst hvr
  have HDK := Lib.hid hd
  have HL : Hid (d0.routes.length ≤ 9223372036854775807 ∧ ∀ r ∈ d0.routes, r.length ≤ 9223372036854775807) := ⟨hl, hrl⟩
  clear hd hl hrl
  have hb0 := (Below.refl w.heap.size w).alloc (Nat.le_refl _) (.cells #[.int .u8 (d0.form : Int), .int .u8 (d0.len : Int), .int .u8 (d0.speed : Int), .int .u16 (d0.mute : Int), .int .u16 (d0.wait : Int), .int .u8 (d0.cancel : Int), .int .u8 (d0.stay : Int), .int .u8 (d0.join : Int), .slice Ar kr cr] 25)
  have HB0 := Lib.hid hb0
  have HBR := Lib.hid (hbr.up hb0)
  have HRW := Lib.hid (Row.new w 25 #[.int .u8 (d0.form : Int), .int .u8 (d0.len : Int), .int .u8 (d0.speed : Int), .int .u16 (d0.mute : Int), .int .u16 (d0.wait : Int), .int .u8 (d0.cancel : Int), .int .u8 (d0.stay : Int), .int .u8 (d0.join : Int), .slice Ar kr cr])
  clear hb0 hbr
  unfold drV
  cases hs : small d0 with
  | false =>
    go_enter Tryz.func8, Tryz.ntmps8
    go_upto_region 1 with (fail)
    obtain ⟨g0, hg0⟩ : ∃ n, n = w.heap.size := ⟨_, rfl⟩
    rw [← hg0] at HRW ⊢
    have HG0 : Hid (g0 = w.heap.size) := hg0
    generalize w.alloc (.cells #[.int .u8 (d0.form : Int), .int .u8 (d0.len : Int), .int .u8 (d0.speed : Int), .int .u16 (d0.mute : Int), .int .u16 (d0.wait : Int), .int .u8 (d0.cancel : Int), .int .u8 (d0.stay : Int), .int .u8 (d0.join : Int), .slice Ar kr cr] 25) = W0 at *
    clear hg0
    go_wp2_with fail
    refine (nothing_any _).mono ?_; rintro e wA ⟨rfl, hbA⟩
    have HA := Lib.hid (HB0.out.trans (hbA.mono HB0.out.size))
    have HRA := Lib.hid (Below.row hbA HRW.out HRW.out.lt)
    have HBA := Lib.hid (HBR.out.up hbA)
    clear hbA HB0 HRW HBR
    have f0 := HRA.out.cell 0
    have f1 := HRA.out.cell 1
    have f2 := HRA.out.cell 2
    have f3 := HRA.out.cell 3
    have f4 := HRA.out.cell 4
    have f5 := HRA.out.cell 5
    have f6 := HRA.out.cell 6
    have f7 := HRA.out.cell 7
    have f8 := HRA.out.cell 8
    simp only [List.getElem?_toArray, List.getElem?_cons_zero, List.getElem?_cons_succ] at f0 f1 f2 f3 f4 f5 f6 f7 f8
    go_wp2_with fail
    refine (small_any wA d0 (.slice Ar kr cr) HBA.out HL.out.1 HL.out.2).mono ?_; rintro e wB ⟨rfl, hbB⟩
    clear f0 f1 f2 f3 f4 f5 f6 f7 f8
    rw [hs]
    have HB := Lib.hid (HA.out.trans (hbB.mono HA.out.size))
    have HRB := Lib.hid (Below.row hbB HRA.out HRA.out.lt)
    have HBB := Lib.hid (HBA.out.up hbB)
    clear hbB HA HRA HBA
    go_wp2_with fail
    refine (nothing_any _).mono ?_; rintro e wZ ⟨rfl, hbZ⟩
    have HZ := Lib.hid (HB.out.trans (hbZ.mono HB.out.size))
    clear hbZ
    go_wp2_with fail
    go_ret
    exact ⟨rfl, by rw [← HG0.out] at HZ ⊢; exact HZ.out⟩
  | true =>
    have HS := Lib.hid hs
    by_cases h10 : rows.length ≤ 20
    · have h10i : ¬ (20 : Int) < (rows.length : Int) := by omega
      have h10n : ¬ 20 < rows.length := by omega
      go_enter Tryz.func8, Tryz.ntmps8
      go_upto_region 1 with (fail)
      obtain ⟨g0, hg0⟩ : ∃ n, n = w.heap.size := ⟨_, rfl⟩
      rw [← hg0] at HRW ⊢
      have HG0 : Hid (g0 = w.heap.size) := hg0
      generalize w.alloc (.cells #[.int .u8 (d0.form : Int), .int .u8 (d0.len : Int), .int .u8 (d0.speed : Int), .int .u16 (d0.mute : Int), .int .u16 (d0.wait : Int), .int .u8 (d0.cancel : Int), .int .u8 (d0.stay : Int), .int .u8 (d0.join : Int), .slice Ar kr cr] 25) = W0 at *
      clear hg0
      go_wp2_with fail
      refine (nothing_any _).mono ?_; rintro e wA ⟨rfl, hbA⟩
      have HA := Lib.hid (HB0.out.trans (hbA.mono HB0.out.size))
      have HRA := Lib.hid (Below.row hbA HRW.out HRW.out.lt)
      have HBA := Lib.hid (HBR.out.up hbA)
      clear hbA HB0 HRW HBR
      have f0 := HRA.out.cell 0
      have f1 := HRA.out.cell 1
      have f2 := HRA.out.cell 2
      have f3 := HRA.out.cell 3
      have f4 := HRA.out.cell 4
      have f5 := HRA.out.cell 5
      have f6 := HRA.out.cell 6
      have f7 := HRA.out.cell 7
      have f8 := HRA.out.cell 8
      simp only [List.getElem?_toArray, List.getElem?_cons_zero, List.getElem?_cons_succ] at f0 f1 f2 f3 f4 f5 f6 f7 f8
      go_wp2_with fail
      refine (small_any wA d0 (.slice Ar kr cr) HBA.out HL.out.1 HL.out.2).mono ?_; rintro e wB ⟨rfl, hbB⟩
      clear f0 f1 f2 f3 f4 f5 f6 f7 f8
      rw [hs]
      have HB := Lib.hid (HA.out.trans (hbB.mono HA.out.size))
      have HRB := Lib.hid (Below.row hbB HRA.out HRA.out.lt)
      have HBB := Lib.hid (HBA.out.up hbB)
      clear hbB HA HRA HBA
      have f0 := HRB.out.cell 0
      have f1 := HRB.out.cell 1
      have f2 := HRB.out.cell 2
      have f3 := HRB.out.cell 3
      have f4 := HRB.out.cell 4
      have f5 := HRB.out.cell 5
      have f6 := HRB.out.cell 6
      have f7 := HRB.out.cell 7
      have f8 := HRB.out.cell 8
      simp only [List.getElem?_toArray, List.getElem?_cons_zero, List.getElem?_cons_succ] at f0 f1 f2 f3 f4 f5 f6 f7 f8
      go_wp2_with fail
      refine (full_any wB d0 (.slice Ar kr cr) HDK.out HBB.out hs).mono ?_; rintro e wC ⟨vL, rfl, hvL, hbL⟩
      clear f0 f1 f2 f3 f4 f5 f6 f7 f8
      have HC := Lib.hid (HB.out.trans (hbL.mono HB.out.size))
      clear hbL HB HRB HBB
      have HVF : Hid (Vf2 (fullL d0)) := ⟨full_vf d0, fun r hr => by have := (routes_full d0 HDK.out r hr).1; omega⟩
      generalize fullL d0 = L at *
      obtain ⟨vN, vS, vP, vQ, vR, ps, rfl, hd⟩ := hvL
      obtain ⟨⟨A0, c0, rfl⟩, ⟨A1, c1, rfl⟩, ⟨A2, c2, rfl⟩, ⟨A3, c3, rfl⟩, ⟨A4, c4, rfl⟩⟩ := hd.slices
      obtain ⟨n0, hn0⟩ : ∃ n, L.nodes.length = n := ⟨_, rfl⟩
      obtain ⟨n1, hn1⟩ : ∃ n, L.secs.length = n := ⟨_, rfl⟩
      obtain ⟨n2, hn2⟩ : ∃ n, L.parts.length = n := ⟨_, rfl⟩
      obtain ⟨n3, hn3⟩ : ∃ n, L.points.length = n := ⟨_, rfl⟩
      obtain ⟨n4, hn4⟩ : ∃ n, L.routes.length = n := ⟨_, rfl⟩
      have HN : Hid (L.nodes.length = n0 ∧ L.secs.length = n1 ∧ L.parts.length = n2 ∧ L.points.length = n3 ∧ L.routes.length = n4) := ⟨hn0, hn1, hn2, hn3, hn4⟩
      rw [hn0, hn1, hn2, hn3, hn4] at hd ⊢
      clear hn0 hn1 hn2 hn3 hn4
      have hb2 := (Below.refl wC.heap.size wC).alloc (Nat.le_refl _) (.cells #[.slice A0 n0 c0, .slice A1 n1 c1, .slice A2 n2 c2, .slice A3 n3 c3, .slice A4 n4 c4, .int .i64 L.speed, .int .i64 L.mute, .int .i64 L.wait, .int .i64 L.cancel, .int .i64 L.stay] 33)
      have HE0 : Hid (ESt w wC.heap.size (.slice A0 n0 c0) (.slice A1 n1 c1) (.slice A2 n2 c2) (.slice A3 n3 c3) (.slice A4 n4 c4) L (wC.alloc (.cells #[.slice A0 n0 c0, .slice A1 n1 c1, .slice A2 n2 c2, .slice A3 n3 c3, .slice A4 n4 c4, .int .i64 L.speed, .int .i64 L.mute, .int .i64 L.wait, .int .i64 L.cancel, .int .i64 L.stay] 33))) := ESt.of (D := wC.heap.size) (HC.out.trans (hb2.mono HC.out.size)) (Row.new wC 33 #[.slice A0 n0 c0, .slice A1 n1 c1, .slice A2 n2 c2, .slice A3 n3 c3, .slice A4 n4 c4, .int .i64 L.speed, .int .i64 L.mute, .int .i64 L.wait, .int .i64 L.cancel, .int .i64 L.stay]) (hd.mono (Nat.le_refl _) (fun _ hp => hb2.cell hp)) (Nat.le_refl _) HC.out.size
      have HDT0 : Hid (LayData (wC.alloc (.cells #[.slice A0 n0 c0, .slice A1 n1 c1, .slice A2 n2 c2, .slice A3 n3 c3, .slice A4 n4 c4, .int .i64 L.speed, .int .i64 L.mute, .int .i64 L.wait, .int .i64 L.cancel, .int .i64 L.stay] 33)) wC.heap.size (.slice A0 n0 c0) (.slice A1 n1 c1) (.slice A2 n2 c2) (.slice A3 n3 c3) (.slice A4 n4 c4) ps L) := hd.mono (Nat.le_refl _) (fun _ hp => hb2.cell hp)
      clear hb2 HC hd
      go_upto_region 4 with (fail)
      obtain ⟨nL, hnL⟩ : ∃ n, n = wC.heap.size := ⟨_, rfl⟩
      have HE : Hid (ESt w nL (.slice A0 n0 c0) (.slice A1 n1 c1) (.slice A2 n2 c2) (.slice A3 n3 c3) (.slice A4 n4 c4) L (wC.alloc (.cells #[.slice A0 n0 c0, .slice A1 n1 c1, .slice A2 n2 c2, .slice A3 n3 c3, .slice A4 n4 c4, .int .i64 L.speed, .int .i64 L.mute, .int .i64 L.wait, .int .i64 L.cancel, .int .i64 L.stay] 33))) := by rw [hnL]; exact HE0.out
      have HDT : Hid (LayData (wC.alloc (.cells #[.slice A0 n0 c0, .slice A1 n1 c1, .slice A2 n2 c2, .slice A3 n3 c3, .slice A4 n4 c4, .int .i64 L.speed, .int .i64 L.mute, .int .i64 L.wait, .int .i64 L.cancel, .int .i64 L.stay] 33)) nL (.slice A0 n0 c0) (.slice A1 n1 c1) (.slice A2 n2 c2) (.slice A3 n3 c3) (.slice A4 n4 c4) ps L) := by rw [hnL]; exact HDT0.out
      rw [← hnL]
      clear hnL HE0 HDT0
      generalize wC.alloc (.cells #[.slice A0 n0 c0, .slice A1 n1 c1, .slice A2 n2 c2, .slice A3 n3 c3, .slice A4 n4 c4, .int .i64 L.speed, .int .i64 L.mute, .int .i64 L.wait, .int .i64 L.cancel, .int .i64 L.stay] 33) = wD at *
      have p0 := HE.out.row.cell 0
      have p1 := HE.out.row.cell 1
      have p2 := HE.out.row.cell 2
      have p3 := HE.out.row.cell 3
      have p4 := HE.out.row.cell 4
      have p5 := HE.out.row.cell 5
      have p6 := HE.out.row.cell 6
      have p7 := HE.out.row.cell 7
      have p8 := HE.out.row.cell 8
      have p9 := HE.out.row.cell 9
      simp only [layC, List.getElem?_toArray, List.getElem?_cons_zero, List.getElem?_cons_succ] at p0 p1 p2 p3 p4 p5 p6 p7 p8 p9
      have fz := HE.out.row.frozen 2
      go_upto_region 5 with (fail)
      clear fz
      clear p0 p1 p2 p3 p4 p5 p6 p7 p8 p9
      have HP0 : Hid (PaSt wD nL (.slice A0 n0 c0) (.slice A1 n1 c1) (.slice none 0 0) (.slice A3 n3 c3) (.slice A4 n4 c4) L ([]) ([]) (wD.setCell ⟨nL, 2, none⟩ (.slice none 0 0))) := PaSt.none ((Below.refl nL wD).setCell (Nat.le_refl _) _) (by have := HE.out.row.lt; simpa using this) (HE.out.row.set 2 _) rfl
      generalize wD.setCell ⟨nL, 2, none⟩ (.slice none 0 0) = wE at *
      obtain ⟨i42, hi42, hz0, hz1, hz2⟩ := info_parts Tryz.info42q
      obtain ⟨i3, hi3, hy0, hy1, hy2⟩ := info_parts Tryz.info3q
      go_wp2_with fail
      go_loopw [6] (fun u wr => ∃ i : Nat, i ≤ rows.length ∧ u = .int .i64 i ∧ ∃ vP vs, Hid (PaSt wD nL (.slice A0 n0 c0) (.slice A1 n1 c1) (vP) (.slice A3 n3 c3) (.slice A4 n4 c4) L (rows.take i) (vs) wr ∧ ∀ r ∈ rows.take i, r.length ≤ 12)) (fun u _ => rows.length - (intOf u).toNat)
      case atStart => exact ⟨0, Nat.zero_le _, rfl, .slice none 0 0, [], HP0.out, fun r hr => absurd hr (by simp)⟩
      case round =>
        obtain ⟨i, hi0, rfl, vP, vs, HJ⟩ := hrel
        clear HP0
        obtain ⟨wS, hwS⟩ : ∃ x, x = wr := ⟨_, rfl⟩
        subst hwS
        obtain ⟨AP, cP, hvP⟩ := HJ.out.1.row_one
        have hle1 : (rows.take i).length = i := by simp; omega
        rw [hle1] at hvP
        subst hvP
        clear hle1
        have HBS : Hid (Below w.heap.size w wS) := HE.out.bel.trans (HJ.out.1.bel.mono HE.out.le)
        by_cases hi : i < rows.length
        · have hii : (i : Int) < (rows.length : Int) := by omega
          obtain ⟨br, orr, Ax, cx, hA1, hbr', hc0, hrd⟩ := HRS.out.row_at i hi
          subst hA1
          have HROW0 : Hid (rows[i] = rows[i]) := rfl
          have HRB2 : Hid (∀ y ∈ rows[i], -128 ≤ y ∧ y ≤ 127) := HRB.out rows[i] (List.getElem_mem hi)
          obtain ⟨row, hrow⟩ : ∃ r, rows[i] = r := ⟨_, rfl⟩
          have HROW := Lib.hid hrow
          rw [hrow] at hc0 hrd HRB2
          have HC0 := Lib.hid hc0
          have HRD := Lib.hid hrd
          have e0c : wS.cell? ⟨br, orr + i, none⟩ = some (.slice Ax row.length cx) := (HBS.out.cell (p := ⟨br, orr + i, none⟩) hbr').trans HC0.out
          clear hc0 hrd HROW0 hrow
          by_cases h12 : 12 < row.length
          · have h12i : (12 : Int) < (row.length : Int) := by omega
            go_wp2_with fail
            go_ret
            exact ⟨rfl, HBS.out⟩
          · have h12i : ¬ (12 : Int) < (row.length : Int) := by omega
            go_wp2_with fail
            clear e0c
            go_loopw [7, 8] (fun ux uk wr => ∃ k : Nat, k ≤ row.length ∧ uk = .int .i64 k ∧ Hid (Below wS.heap.size wS wr ∧ wr.ownsRow wS.heap.size 3 1 ux k (ivals (row.take k)))) (fun _ uk _ => row.length - (intOf uk).toNat)
            case atStart => exact ⟨0, Nat.zero_le _, rfl, Below.refl _ _, World.ownsRow_nil _ _ _ _⟩
            case round =>
              obtain ⟨k, hk, rfl, HX⟩ := hrel
              by_cases hkl : k < row.length
              · have hki : (k : Int) < (row.length : Int) := by omega
                have hbk := (HBS.out.trans (HX.out.1.mono HBS.out.size))
                have e0c : wr.cell? ⟨br, orr + i, none⟩ = some (.slice Ax row.length cx) := (hbk.cell (p := ⟨br, orr + i, none⟩) hbr').trans HC0.out
                obtain ⟨bx, ox, hAx, -, e1c⟩ := (HRD.out.below hbk (Nat.le_refl _)).at (i := k) (u := .int .i8 row[k]) (by simp [cvals8, hkl])
                subst hAx
                have hy := HRB2.out row[k] (List.getElem_mem hkl)
                have HSN := Lib.hid (own_snoc hkl)
                generalize row[k] = y at *
                have hwy : IntKind.i64.wrap y = y := IntWalk.i64_in _ (by omega)
                have HLT : Hid (Sr (wr.alloc (.cells #[.int .i64 y] 3)) (some ⟨wr.heap.size, 0, none⟩) 1 1 1 [.int .i64 y]) := Sr.lit wr #[.int .i64 y] 3 1 1 rfl (by intro u hu; simp at hu; subst hu; rfl)
                have hba := (Below.refl wr.heap.size wr).alloc (Nat.le_refl _) (.cells #[.int .i64 y] 3)
                have HO2 := Lib.hid (own_below HX.out.2 hba)
                have HB2 : Hid (Below wS.heap.size wS (wr.alloc (.cells #[.int .i64 y] 3))) := HX.out.1.trans (hba.mono HX.out.1.size)
                clear hba hbk HX
                obtain ⟨Au, cu, hu⟩ := own_slice HO2.out
                subst hu
                go_wp2_with (at_builtin; refine wpList_app_src rfl (.tmp 46) (.tmp 55) 42 rfl wS.heap.size 3 i3 (.int .i64 0) 1 8 Tryz.underlying42 hi3 hy0 hy1 hy2 rfl (by decide) (.slice Au k cu) k (ivals (row.take k)) rfl HO2.out (some ⟨wr.heap.size, 0, none⟩) 1 1 [.int .i64 y] rfl HLT.out (by omega) (by decide) HB2.out.size ?_)
                intro v9 w9 hown9 hgr9 _
                have hb9 : Below wS.heap.size wS w9 := HB2.out.trans ⟨hgr9.os, hgr9.tape, hgr9.output, hgr9.size, fun j hj => hgr9.block j (Nat.lt_of_lt_of_le hj HB2.out.size) (fun e => by have := (HO2.out.lt j e.symm).1; omega)⟩
                rw [HSN.out] at hown9
                have HX9 : Hid (Below wS.heap.size wS w9 ∧ w9.ownsRow wS.heap.size 3 1 v9 (k + 1) (ivals (row.take (k + 1)))) := ⟨hb9, hown9⟩
                clear hown9 hgr9 hb9 HO2 HB2 HLT e0c e1c HSN
                go_wp2_with fail
                go_roundw
                case rel => exact ⟨k + 1, by omega, by go_num, HX9⟩
                case measure => simp [intOf]; omega
              · have hke : k = row.length := by omega
                subst hke
                have hki : ¬ (row.length : Int) < (row.length : Int) := by omega
                have hbk := (HBS.out.trans (HX.out.1.mono HBS.out.size))
                have e0c : wr.cell? ⟨br, orr + i, none⟩ = some (.slice Ax row.length cx) := (hbk.cell (p := ⟨br, orr + i, none⟩) hbr').trans HC0.out
                obtain ⟨Au, cu, hu⟩ := own_slice HX.out.2
                subst hu
                have hsz : nL + 1 ≤ wS.heap.size := HJ.out.1.lt
                have HXO : Hid (wr.ownsRow (nL + 1) 3 1 (.slice Au row.length cu) row.length (ivals row)) := by
                  have h := own_base HX.out.2 hsz
                  rw [List.take_length] at h; exact h
                have HJ2 := Lib.hid (HJ.out.1.call HX.out.1)
                have HLT : Hid (Sr (wr.alloc (.cells #[.slice Au row.length cu] 42)) (some ⟨wr.heap.size, 0, none⟩) 1 1 1 [.slice Au row.length cu]) := Sr.lit wr #[.slice Au row.length cu] 42 1 1 rfl (by intro u hu; simp at hu; subst hu; rfl)
                have hba := (Below.refl wr.heap.size wr).alloc (Nat.le_refl _) (.cells #[.slice Au row.length cu] 42)
                have HO2 : Hid ((wr.alloc (.cells #[.slice Au row.length cu] 42)).ownsRow (nL + 1) 42 1 (.slice AP i cP) i vs) := by
                  have h := own_below HJ2.out.own hba
                  rw [show (rows.take i).length = i by simp; omega] at h
                  exact h
                have hsz2 : nL + 1 ≤ (wr.alloc (.cells #[.slice Au row.length cu] 42)).heap.size := Nat.le_trans HJ2.out.lt hba.size
                clear hba hbk HX hsz
                have p0 := HJ2.out.row.cell 0
                have p1 := HJ2.out.row.cell 1
                have p2 := HJ2.out.row.cell 2
                have p3 := HJ2.out.row.cell 3
                have p4 := HJ2.out.row.cell 4
                have p5 := HJ2.out.row.cell 5
                have p6 := HJ2.out.row.cell 6
                have p7 := HJ2.out.row.cell 7
                have p8 := HJ2.out.row.cell 8
                have p9 := HJ2.out.row.cell 9
                simp only [layC, List.getElem?_toArray, List.getElem?_cons_zero, List.getElem?_cons_succ] at p0 p1 p2 p3 p4 p5 p6 p7 p8 p9
                go_wp2_with (at_builtin; refine wpList_app_src rfl (.tmp 58) (.tmp 60) 30 rfl (nL + 1) 42 i42 (.slice none 0 0) 1 24 Tryz.underlying30 hi42 hz0 hz1 hz2 rfl (by decide) (.slice AP i cP) i vs rfl HO2.out (some ⟨wr.heap.size, 0, none⟩) 1 1 [.slice Au row.length cu] rfl HLT.out (by omega) (by decide) hsz2 ?_)
                intro v9 w9 hown9 hgr9 _
                have HJ9 := Lib.hid (HJ2.out.push HXO.out (by rw [show (rows.take i).length = i by simp; omega]; exact hown9) hgr9)
                obtain ⟨A9, c9, hv9⟩ := own_slice hown9
                subst hv9
                have hrow9 : Row w9 nL 33 (layC (.slice A0 n0 c0) (.slice A1 n1 c1) (.slice AP i cP) (.slice A3 n3 c3) (.slice A4 n4 c4) L) := (HJ2.out.row.alloc _).grown hgr9 (fun e => by have := (HJ2.out.own.lt nL e.symm).1; omega)
                have q2 := hrow9.cell 2
                have fz := hrow9.frozen 2
                simp only [layC, List.getElem?_toArray, List.getElem?_cons_zero, List.getElem?_cons_succ] at q2
                clear hown9 hgr9 hrow9 HJ2 HO2 HLT HXO e0c
                go_upto_region 7 with (fail)
                clear q2 fz
                generalize w9.setCell ⟨nL, 2, none⟩ (.slice A9 (i + 1) c9) = wT at *
                go_wp2_with fail
                go_roundw
                case rel => exact ⟨i + 1, by omega, by go_num, .slice A9 (i + 1) c9, _, by rw [List.take_succ_eq_append_getElem hi, HROW.out]; exact HJ9.out, fun r hr => by
                  rw [List.take_succ_eq_append_getElem hi, List.mem_append, List.mem_singleton, HROW.out] at hr
                  rcases hr with h | h
                  · exact HJ.out.2 r h
                  · rw [h]; omega⟩
                case measure => simp [intOf]; omega
        · have hie : i = rows.length := by omega
          subst hie
          have hii : ¬ (rows.length : Int) < (rows.length : Int) := by omega
          have hv := HJ.out.1.v (ps := ps) HDT.out
          rw [List.take_length] at hv
          have HV := Lib.hid hv
          have HVA : Hid (Vf2 { L with parts := rows }) := ⟨⟨⟨HVF.out.v.f.s, HVF.out.v.f.q, by show rows.length ≤ 100; omega, fun r hr => by have h := HJ.out.2 r (by rw [List.take_length]; exact hr); omega⟩, HVF.out.v.n, HVF.out.v.r⟩, HVF.out.r⟩
          have p0 := HJ.out.1.row.cell 0
          have p1 := HJ.out.1.row.cell 1
          have p2 := HJ.out.1.row.cell 2
          have p3 := HJ.out.1.row.cell 3
          have p4 := HJ.out.1.row.cell 4
          have p5 := HJ.out.1.row.cell 5
          have p6 := HJ.out.1.row.cell 6
          have p7 := HJ.out.1.row.cell 7
          have p8 := HJ.out.1.row.cell 8
          have p9 := HJ.out.1.row.cell 9
          simp only [layC, List.getElem?_toArray, List.getElem?_cons_zero, List.getElem?_cons_succ] at p0 p1 p2 p3 p4 p5 p6 p7 p8 p9
          have hj := judged_any wS _ _ HV.out HVA.out
          unfold layC at hj
          have HJD := Lib.hid hj
          clear hj hv
          go_wp2_with fail
          refine HJD.out.mono ?_; rintro e wB9 ⟨rfl, hbB⟩
          have HZ : Hid (Below w.heap.size w wB9) := HBS.out.trans (hbB.mono HBS.out.size)
          clear p0 p1 p2 p3 p4 p5 p6 p7 p8 p9
          clear hbB HJD HV
          go_wp2_with fail
          go_ret
          exact ⟨rfl, HZ.out⟩
    · have h10i : (20 : Int) < (rows.length : Int) := by omega
      have h10n : 20 < rows.length := by omega
      go_enter Tryz.func8, Tryz.ntmps8
      go_upto_region 1 with (fail)
      obtain ⟨g0, hg0⟩ : ∃ n, n = w.heap.size := ⟨_, rfl⟩
      rw [← hg0] at HRW ⊢
      have HG0 : Hid (g0 = w.heap.size) := hg0
      generalize w.alloc (.cells #[.int .u8 (d0.form : Int), .int .u8 (d0.len : Int), .int .u8 (d0.speed : Int), .int .u16 (d0.mute : Int), .int .u16 (d0.wait : Int), .int .u8 (d0.cancel : Int), .int .u8 (d0.stay : Int), .int .u8 (d0.join : Int), .slice Ar kr cr] 25) = W0 at *
      clear hg0
      go_wp2_with fail
      refine (nothing_any _).mono ?_; rintro e wA ⟨rfl, hbA⟩
      have HA := Lib.hid (HB0.out.trans (hbA.mono HB0.out.size))
      have HRA := Lib.hid (Below.row hbA HRW.out HRW.out.lt)
      have HBA := Lib.hid (HBR.out.up hbA)
      clear hbA HB0 HRW HBR
      have f0 := HRA.out.cell 0
      have f1 := HRA.out.cell 1
      have f2 := HRA.out.cell 2
      have f3 := HRA.out.cell 3
      have f4 := HRA.out.cell 4
      have f5 := HRA.out.cell 5
      have f6 := HRA.out.cell 6
      have f7 := HRA.out.cell 7
      have f8 := HRA.out.cell 8
      simp only [List.getElem?_toArray, List.getElem?_cons_zero, List.getElem?_cons_succ] at f0 f1 f2 f3 f4 f5 f6 f7 f8
      go_wp2_with fail
      refine (small_any wA d0 (.slice Ar kr cr) HBA.out HL.out.1 HL.out.2).mono ?_; rintro e wB ⟨rfl, hbB⟩
      clear f0 f1 f2 f3 f4 f5 f6 f7 f8
      rw [hs]
      have HB := Lib.hid (HA.out.trans (hbB.mono HA.out.size))
      have HRB := Lib.hid (Below.row hbB HRA.out HRA.out.lt)
      have HBB := Lib.hid (HBA.out.up hbB)
      clear hbB HA HRA HBA
      go_wp2_with fail
      refine (nothing_any _).mono ?_; rintro e wZ ⟨rfl, hbZ⟩
      have HZ := Lib.hid (HB.out.trans (hbZ.mono HB.out.size))
      clear hbZ
      go_wp2_with fail
      go_ret
      exact ⟨rfl, by rw [← HG0.out] at HZ ⊢; exact HZ.out⟩

theorem lifted (os : Os) (started : os.Started) (H : Type) (enc : TypeId × Value → H) :
    ReturnsInHanded {} Tryz.checked os 8 .any (Rows.verifyPartsSpec.pre6 enc Tryz.prog Tryz.f8 Rows.verifyPartsRow.domain false) (Rows.verifyPartsSpec.post enc Tryz.prog Tryz.f8 false true false false) := by
  refine returnsInHanded_of_change (C := Tryz.checked) own started (by kernel_rfl) Tryz.func8
    (ChangeSpec.witness6 (enc := enc) (C := Tryz.checked) false ⟨#[], #[.agg #[.int .u8 0, .int .u8 0, .int .u8 0, .int .u16 0, .int .u16 0, .int .u8 0, .int .u8 0, .int .u8 0, .slice none 0 0], .slice none 0 0], []⟩ 8 (by kernel_rfl) (by kernel_rfl) (by kernel_rfl) (by kernel_rfl)) ?_
  intro W base args ds gs before hval0 hW hcnd _
  have hval : ∀ (j : Nat) t v, Tryz.f8.params[j]? = some t → args[j]? = some v → Value.okWide Tryz.prog W .any base t v := hval0
  have hW' := hW
  obtain ⟨p, q, hA0, hV, rfl, hfz, hnd⟩ := hW
  have hA : DataW.TrodAll enc Tryz.prog W 0 (fun _ => true) true Tryz.f8.params.toList args.toList ds p := hA0
  rw [Tryz.params8] at hA hval
  obtain ⟨v0, vs0, d0, ds0, p0, q0, hargs, rfl, rfl, h0, r0⟩ := trodAll_cons hA
  obtain ⟨v1, vs1, d1, ds1, p1, q1, rfl, rfl, rfl, h1, r1⟩ := trodAll_cons r0
  obtain ⟨rfl, rfl, rfl⟩ := trodAll_nil r1
  obtain rfl : args = #[v0, v1] := by cases args; simp_all
  obtain ⟨rfl, rfl⟩ := trodVars_none hV
  have k0 := h0
  have lt0 : ∀ x ∈ p0, x.block < W.heap.size := by obtain ⟨m, hm⟩ := k0; exact DataW.trod_lt m _ _ _ hm
  obtain ⟨e0, vr0, hv0, w0⟩ := draft_of_trod (hval 0 25 v0 rfl rfl) h0
  subst hv0
  have k1 := h1
  have lt1 : ∀ x ∈ p1, x.block < W.heap.size := by obtain ⟨m, hm⟩ := k1; exact DataW.trod_lt m _ _ _ hm
  obtain ⟨rows1, w1⟩ : ∃ rows : List (List Int), IRows W W.heap.size v1 rows ∧ rows.length ≤ 9223372036854775807 ∧ (∀ r ∈ rows, r.length ≤ 9223372036854775807) ∧ ∀ r ∈ rows, ∀ y ∈ r, (-128 ≤ y ∧ y ≤ 127) := by
    obtain ⟨A, ln, cp, rfl⟩ := okWide_slice Tryz.underlying54 (hval 1 54 v1 rfl rfl)
    obtain ⟨fuel, hf⟩ := h1
    exact irows_of_trod (by simpa [Value.cells] using hf)
  clear hA0 hval0
  refine (walk e0 vr0 v1 rows1 W w0 w1).mono fun e W' ⟨he, bel⟩ => ?_
  subst he
  exact ⟨_, rfl, _, _, _, [], _, [], hW', trodAll_mk1 (shut_bool Tryz.underlying4 _), (trodAll_cons_mk (Below.trod laidOut (by kernel_rfl) (of_decide_eq_true (by kernel_rfl)) k0 bel lt0) (trodAll_cons_mk (Below.trod laidOut (by kernel_rfl) (of_decide_eq_true (by kernel_rfl)) k1 bel lt1) trodAll_mk0)), rfl, bel.frame _, fun h => by cases h⟩

theorem over : Rows.verifyPartsRow.holds Tryz.pinned (OpenSpec.ofChange Rows.verifyPartsSpec) :=
  OpenClaim.holds_of_wide 8 Tryz.f8 rfl rfl rfl rfl rfl rfl rfl ⟨rfl, rfl, rfl, rfl, rfl⟩ rfl rfl rfl rfl rfl (by kernel_rfl) Tryz.func8 (by kernel_rfl)
    (of_decide_eq_true (by kernel_rfl)) (by unfold Func.isWrapper; first | (rw [if_pos (by decide +kernel)]; kernel_rfl) | (rw [if_neg (by decide +kernel)]; exact ⟨rfl, rfl⟩))
    (fun os started H enc _ => lifted os started H enc)

theorem proved : Rows.VerifyPartsSaid := over
#print axioms proved
end Go.Proofs.YtagkgejdammflaaGreat.verifyParts
