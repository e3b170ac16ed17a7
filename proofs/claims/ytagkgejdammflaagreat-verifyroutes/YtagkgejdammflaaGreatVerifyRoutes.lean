/-
  PROVED: for every input the law VerifyRoutes returns true and leaves its arguments as they were: any sections as a route: the program judges as the document does. No condition.
-/
import Derived.Test.YtagkgejdammflaaGreatRows
import Derived.Test.YtagkgejdammflaaGreatV35
import Derived.Test.YtagkgejdammflaaGreatV33
import Derived.Test.YtagkgejdammflaaGreatFull
import Derived.Test.YtagkgejdammflaaGreatWalk
import Derived.Test.YtagkgejdammflaaGreatRise
import Derived.WalkKit
import Derived.ProofKit
import Derived.OpenShut
import Derived.ShutString
import Derived.ChangeOld
import Derived.Below
import Derived.StillTailTactics
namespace Go.Proofs.YtagkgejdammflaaGreat.verifyRoutes
open Go.ChangeShapes Go.WideShapes Go.ChangeAt Go.RowKit
open Go.ChangeMaps (open_string shut_string)
set_option linter.unusedVariables false
set_option maxRecDepth 100000

theorem own : ownKnob Tryz.prog.godebug = none := by kernel_rfl
theorem laidOut : laidOutB Tryz.prog = true := by kernel_rfl

/-- What is known of a slice of integers that came in: nil, or a row of 'cap' cells. -/
def IsRow (k : IntKind) (w : World) (a : Option Addr) (len cap : Nat) (zs : List Int) : Prop :=
  (a = none ∧ len = 0 ∧ cap = 0 ∧ zs = []) ∨
  ∃ x, a = some x ∧ len ≤ cap ∧ cap ≤ maxLen ∧ zs.length = cap ∧ (∀ i, i < zs.length → w.cell? (x.add i) = some (.int k (zs.getD i 0))) ∧ ∀ n ∈ zs, (Lit.int k n).wf = true

set_option maxHeartbeats 8000000 in
theorem walk (d0 : Dr) (vr0 : Value) (a1 : Option Addr) (len1 cap1 : Nat) (z1 : List Int) (a2 : Int) (a3 : Option Addr) (len3 cap3 : Nat) (z3 : List Int) (w : World) (w0 : DrOk d0 ∧ BRows w w.heap.size vr0 d0.routes ∧ d0.routes.length ≤ 9223372036854775807 ∧ ∀ r ∈ d0.routes, r.length ≤ 9223372036854775807) (w1 : IsRow .i64 w a1 len1 cap1 z1) (w2 : (Lit.int .u8 a2).wf = true) (w3 : IsRow .u8 w a3 len3 cap3 z3) :
    Calls Tryz.prog 6 #[drV d0 vr0, .slice a1 len1 cap1, .int .u8 a2, .slice a3 len3 cap3] w fun e w' => e = .returned (.bool true) ∧ Below w.heap.size w w' := by
  obtain ⟨nf, hnf, hnf2⟩ := u8_nat w2
  subst hnf
  obtain ⟨ts, htl, hby, hts⟩ := arg_any w3
  obtain ⟨q, hql, hqs⟩ := arg_ints w1
  subst htl hql
  have HTS := Lib.hid hts
  have HBY := Lib.hid hby
  have HQS := Lib.hid hqs
  clear w1 w2 w3 hts hby hqs
  obtain ⟨hd, hbr, hl, hrl⟩ := w0
  obtain ⟨Ar, kr, cr, hvr⟩ : ∃ A k c, vr0 = .slice A k c := by obtain ⟨vs, ⟨A, c, e, _⟩, _⟩ := hbr; exact ⟨A, _, c, e⟩
  subst hvr
  have HDK := Lib.hid hd
  have HL : Hid (d0.routes.length ≤ 9223372036854775807 ∧ ∀ r ∈ d0.routes, r.length ≤ 9223372036854775807) := ⟨hl, hrl⟩
  clear hd hl hrl
  have hb0 := (Below.refl w.heap.size w).alloc (Nat.le_refl _) (.cells #[.int .u8 (d0.form : Int), .int .u8 (d0.len : Int), .int .u8 (d0.speed : Int), .int .u16 (d0.mute : Int), .int .u16 (d0.wait : Int), .int .u8 (d0.cancel : Int), .int .u8 (d0.stay : Int), .int .u8 (d0.join : Int), .slice Ar kr cr] 25)
  have HB0 := Lib.hid hb0
  have HBR := Lib.hid (hbr.up hb0)
  have HRW := Lib.hid (Row.new w 25 #[.int .u8 (d0.form : Int), .int .u8 (d0.len : Int), .int .u8 (d0.speed : Int), .int .u16 (d0.mute : Int), .int .u16 (d0.wait : Int), .int .u8 (d0.cancel : Int), .int .u8 (d0.stay : Int), .int .u8 (d0.join : Int), .slice Ar kr cr])
  clear hb0 hbr
  unfold drV
  cases hs : small d0 with
  | false =>
    go_enter Tryz.func6, Tryz.ntmps6
    go_upto_region 1 with (fail)
    obtain ⟨g0, hg0⟩ : ∃ n, n = w.heap.size := ⟨_, rfl⟩
    rw [← hg0] at HRW ⊢
    have HG0 : Hid (g0 = w.heap.size) := hg0
    generalize w.alloc (.cells #[.int .u8 (d0.form : Int), .int .u8 (d0.len : Int), .int .u8 (d0.speed : Int), .int .u16 (d0.mute : Int), .int .u16 (d0.wait : Int), .int .u8 (d0.cancel : Int), .int .u8 (d0.stay : Int), .int .u8 (d0.join : Int), .slice Ar kr cr] 25) = W0 at *
    clear hg0
    go_wp2_with fail
    refine (nothing_any _).mono ?_; rintro e wA ⟨rfl, hbA⟩
    have HA := Lib.hid (HB0.out.trans (hbA.mono HB0.out.size))
    have HRA := Lib.hid (Below.row hbA HRW.out HRW.out.lt)
    have HBA := Lib.hid (HBR.out.up hbA)
    clear hbA HB0 HRW HBR
    have f0 := HRA.out.cell 0
    have f1 := HRA.out.cell 1
    have f2 := HRA.out.cell 2
    have f3 := HRA.out.cell 3
    have f4 := HRA.out.cell 4
    have f5 := HRA.out.cell 5
    have f6 := HRA.out.cell 6
    have f7 := HRA.out.cell 7
    have f8 := HRA.out.cell 8
    simp only [List.getElem?_toArray, List.getElem?_cons_zero, List.getElem?_cons_succ] at f0 f1 f2 f3 f4 f5 f6 f7 f8
    go_wp2_with fail
    refine (small_any wA d0 (.slice Ar kr cr) HBA.out HL.out.1 HL.out.2).mono ?_; rintro e wB ⟨rfl, hbB⟩
    clear f0 f1 f2 f3 f4 f5 f6 f7 f8
    rw [hs]
    have HB := Lib.hid (HA.out.trans (hbB.mono HA.out.size))
    have HRB := Lib.hid (Below.row hbB HRA.out HRA.out.lt)
    have HBB := Lib.hid (HBA.out.up hbB)
    clear hbB HA HRA HBA
    go_wp2_with fail
    refine (nothing_any _).mono ?_; rintro e wZ ⟨rfl, hbZ⟩
    have HZ := Lib.hid (HB.out.trans (hbZ.mono HB.out.size))
    clear hbZ
    go_wp2_with fail
    go_ret
    exact ⟨rfl, by rw [← HG0.out] at HZ ⊢; exact HZ.out⟩
  | true =>
    have HS := Lib.hid hs
    by_cases h10 : q.length ≤ 20
    · have h10i : ¬ (20 : Int) < (q.length : Int) := by omega
      have h10n : ¬ 20 < q.length := by omega
      by_cases h20 : ts.length ≤ 20
      · have h20i : ¬ (20 : Int) < (ts.length : Int) := by omega
        have h20n : ¬ 20 < ts.length := by omega
        go_enter Tryz.func6, Tryz.ntmps6
        go_upto_region 1 with (fail)
        obtain ⟨g0, hg0⟩ : ∃ n, n = w.heap.size := ⟨_, rfl⟩
        rw [← hg0] at HRW ⊢
        have HG0 : Hid (g0 = w.heap.size) := hg0
        generalize w.alloc (.cells #[.int .u8 (d0.form : Int), .int .u8 (d0.len : Int), .int .u8 (d0.speed : Int), .int .u16 (d0.mute : Int), .int .u16 (d0.wait : Int), .int .u8 (d0.cancel : Int), .int .u8 (d0.stay : Int), .int .u8 (d0.join : Int), .slice Ar kr cr] 25) = W0 at *
        clear hg0
        go_wp2_with fail
        refine (nothing_any _).mono ?_; rintro e wA ⟨rfl, hbA⟩
        have HA := Lib.hid (HB0.out.trans (hbA.mono HB0.out.size))
        have HRA := Lib.hid (Below.row hbA HRW.out HRW.out.lt)
        have HBA := Lib.hid (HBR.out.up hbA)
        clear hbA HB0 HRW HBR
        have f0 := HRA.out.cell 0
        have f1 := HRA.out.cell 1
        have f2 := HRA.out.cell 2
        have f3 := HRA.out.cell 3
        have f4 := HRA.out.cell 4
        have f5 := HRA.out.cell 5
        have f6 := HRA.out.cell 6
        have f7 := HRA.out.cell 7
        have f8 := HRA.out.cell 8
        simp only [List.getElem?_toArray, List.getElem?_cons_zero, List.getElem?_cons_succ] at f0 f1 f2 f3 f4 f5 f6 f7 f8
        go_wp2_with fail
        refine (small_any wA d0 (.slice Ar kr cr) HBA.out HL.out.1 HL.out.2).mono ?_; rintro e wB ⟨rfl, hbB⟩
        clear f0 f1 f2 f3 f4 f5 f6 f7 f8
        rw [hs]
        have HB := Lib.hid (HA.out.trans (hbB.mono HA.out.size))
        have HRB := Lib.hid (Below.row hbB HRA.out HRA.out.lt)
        have HBB := Lib.hid (HBA.out.up hbB)
        clear hbB HA HRA HBA
        have f0 := HRB.out.cell 0
        have f1 := HRB.out.cell 1
        have f2 := HRB.out.cell 2
        have f3 := HRB.out.cell 3
        have f4 := HRB.out.cell 4
        have f5 := HRB.out.cell 5
        have f6 := HRB.out.cell 6
        have f7 := HRB.out.cell 7
        have f8 := HRB.out.cell 8
        simp only [List.getElem?_toArray, List.getElem?_cons_zero, List.getElem?_cons_succ] at f0 f1 f2 f3 f4 f5 f6 f7 f8
        go_wp2_with fail
        refine (full_any wB d0 (.slice Ar kr cr) HDK.out HBB.out hs).mono ?_; rintro e wC ⟨vL, rfl, hvL, hbL⟩
        clear f0 f1 f2 f3 f4 f5 f6 f7 f8
        have HC := Lib.hid (HB.out.trans (hbL.mono HB.out.size))
        clear hbL HB HRB HBB
        have HVF : Hid (Vf2 (fullL d0) ∧ (fullL d0).routes.length ≤ 16 ∧ 3 ≤ (fullL d0).secs.length ∧ (fullL d0).secs.length ≤ 8) := by
          have h1 := makeEnds_len d0
          refine ⟨⟨full_vf d0, fun r hr => by have := (routes_full d0 HDK.out r hr).1; omega⟩, foldl_le (makeL d0) d0.routes [] (by simp), ?_, ?_⟩
          · show 3 ≤ (makeSecs d0 (makeEnds d0) (makeEnds d0).length).length; rw [makeSecs_len]; exact h1.1
          · show (makeSecs d0 (makeEnds d0) (makeEnds d0).length).length ≤ 8; rw [makeSecs_len]; exact h1.2
        generalize fullL d0 = L at *
        obtain ⟨vN, vS, vP, vQ, vR, ps, rfl, hd⟩ := hvL
        obtain ⟨⟨A0, c0, rfl⟩, ⟨A1, c1, rfl⟩, ⟨A2, c2, rfl⟩, ⟨A3, c3, rfl⟩, ⟨A4, c4, rfl⟩⟩ := hd.slices
        obtain ⟨n0, hn0⟩ : ∃ n, L.nodes.length = n := ⟨_, rfl⟩
        obtain ⟨n1, hn1⟩ : ∃ n, L.secs.length = n := ⟨_, rfl⟩
        obtain ⟨n2, hn2⟩ : ∃ n, L.parts.length = n := ⟨_, rfl⟩
        obtain ⟨n3, hn3⟩ : ∃ n, L.points.length = n := ⟨_, rfl⟩
        obtain ⟨n4, hn4⟩ : ∃ n, L.routes.length = n := ⟨_, rfl⟩
        have HN : Hid (L.nodes.length = n0 ∧ L.secs.length = n1 ∧ L.parts.length = n2 ∧ L.points.length = n3 ∧ L.routes.length = n4) := ⟨hn0, hn1, hn2, hn3, hn4⟩
        rw [hn0, hn1, hn2, hn3, hn4] at hd ⊢
        clear hn0 hn1 hn2 hn3 hn4
        have hb2 := (Below.refl wC.heap.size wC).alloc (Nat.le_refl _) (.cells #[.slice A0 n0 c0, .slice A1 n1 c1, .slice A2 n2 c2, .slice A3 n3 c3, .slice A4 n4 c4, .int .i64 L.speed, .int .i64 L.mute, .int .i64 L.wait, .int .i64 L.cancel, .int .i64 L.stay] 33)
        have HE0 : Hid (ESt w wC.heap.size (.slice A0 n0 c0) (.slice A1 n1 c1) (.slice A2 n2 c2) (.slice A3 n3 c3) (.slice A4 n4 c4) L (wC.alloc (.cells #[.slice A0 n0 c0, .slice A1 n1 c1, .slice A2 n2 c2, .slice A3 n3 c3, .slice A4 n4 c4, .int .i64 L.speed, .int .i64 L.mute, .int .i64 L.wait, .int .i64 L.cancel, .int .i64 L.stay] 33))) := ESt.of (D := wC.heap.size) (HC.out.trans (hb2.mono HC.out.size)) (Row.new wC 33 #[.slice A0 n0 c0, .slice A1 n1 c1, .slice A2 n2 c2, .slice A3 n3 c3, .slice A4 n4 c4, .int .i64 L.speed, .int .i64 L.mute, .int .i64 L.wait, .int .i64 L.cancel, .int .i64 L.stay]) (hd.mono (Nat.le_refl _) (fun _ hp => hb2.cell hp)) (Nat.le_refl _) HC.out.size
        clear hb2 HC hd
        go_upto_region 4 with (fail)
        obtain ⟨nL, hnL⟩ : ∃ n, n = wC.heap.size := ⟨_, rfl⟩
        have HE : Hid (ESt w nL (.slice A0 n0 c0) (.slice A1 n1 c1) (.slice A2 n2 c2) (.slice A3 n3 c3) (.slice A4 n4 c4) L (wC.alloc (.cells #[.slice A0 n0 c0, .slice A1 n1 c1, .slice A2 n2 c2, .slice A3 n3 c3, .slice A4 n4 c4, .int .i64 L.speed, .int .i64 L.mute, .int .i64 L.wait, .int .i64 L.cancel, .int .i64 L.stay] 33))) := by rw [hnL]; exact HE0.out
        rw [← hnL]
        clear hnL HE0
        generalize wC.alloc (.cells #[.slice A0 n0 c0, .slice A1 n1 c1, .slice A2 n2 c2, .slice A3 n3 c3, .slice A4 n4 c4, .int .i64 L.speed, .int .i64 L.mute, .int .i64 L.wait, .int .i64 L.cancel, .int .i64 L.stay] 33) = wD at *
        have h16 : n4 ≤ 16 := by have := HVF.out.2.1; have := HN.out.2.2.2.2; omega
        have hc4 : n4 ≤ c4 ∧ (0 < n4 → ∃ b o, A4 = some ⟨b, o, none⟩) := by
          obtain ⟨vs, hvs, hl, _⟩ := HE.out.lay.r
          obtain ⟨⟨A', c', hv, ⟨_, hc⟩, hx⟩, _⟩ := hvs
          injection hv with e1 e2 e3
          subst e1 e2 e3
          refine ⟨hc, fun hp => ?_⟩
          obtain ⟨b, o, hA, _⟩ := hx hp
          exact ⟨b, o, hA⟩
        have HN1 : Hid (L.secs.length = n1) := HN.out.2.1
        have p0 := HE.out.row.cell 0
        have p1 := HE.out.row.cell 1
        have p2 := HE.out.row.cell 2
        have p3 := HE.out.row.cell 3
        have p4 := HE.out.row.cell 4
        have p5 := HE.out.row.cell 5
        have p6 := HE.out.row.cell 6
        have p7 := HE.out.row.cell 7
        have p8 := HE.out.row.cell 8
        have p9 := HE.out.row.cell 9
        simp only [layC, List.getElem?_toArray, List.getElem?_cons_zero, List.getElem?_cons_succ] at p0 p1 p2 p3 p4 p5 p6 p7 p8 p9
        by_cases h13 : 13 < n4
        · have i13 : (13 : Int) < (n4 : Int) := by omega
          obtain ⟨b4, o4, hA4⟩ := hc4.2 (by omega)
          subst hA4
          have hcc : 13 ≤ c4 := by omega
          have hci : (13 : Int) ≤ (c4 : Int) := by omega
          have fz := HE.out.row.frozen 4
          go_upto_region 6 with (fail)
          clear fz
          clear p0 p1 p2 p3 p4 p5 p6 p7 p8 p9
          have HF0 : Hid (ESt w nL (.slice A0 n0 c0) (.slice A1 n1 c1) (.slice A2 n2 c2) (.slice A3 n3 c3) (.slice (some ⟨b4, o4, none⟩) 13 c4) { L with routes := L.routes.take 13 } (wD.setCell ⟨nL, 4, none⟩ (.slice (some ⟨b4, o4, none⟩) 13 c4))) :=
            HE.out.put 4 _ rfl ⟨HE.out.lay.n, HE.out.lay.s, HE.out.lay.p, HE.out.lay.q, HE.out.lay.r.take 13 (by have := HN.out.2.2.2.2; omega)⟩
          have HV : Hid (Vf2 { L with routes := L.routes.take 13 } ∧ (L.routes.take 13).length ≤ 13 ∧ 3 ≤ L.secs.length ∧ L.secs.length ≤ 8) :=
            ⟨⟨⟨⟨HVF.out.1.v.f.s, HVF.out.1.v.f.q, HVF.out.1.v.f.p, HVF.out.1.v.f.r⟩, HVF.out.1.v.n, by show (L.routes.take 13).length ≤ 1000; simp; omega⟩, fun r hr => HVF.out.1.r r (List.mem_of_mem_take hr)⟩, by simp; omega, HVF.out.2.2⟩
          have HN4 : Hid ((L.routes.take 13).length = 13) := by have := HN.out.2.2.2.2; show _ = _; simp; omega
          clear HE HN HVF hc4
          generalize wD.setCell ⟨nL, 4, none⟩ (.slice (some ⟨b4, o4, none⟩) 13 c4) = wD2 at *
          obtain ⟨L2, hL2⟩ : ∃ M : Lay, M = { L with routes := L.routes.take 13 } := ⟨_, rfl⟩
          have HF : Hid (ESt w nL (.slice A0 n0 c0) (.slice A1 n1 c1) (.slice A2 n2 c2) (.slice A3 n3 c3) (.slice (some ⟨b4, o4, none⟩) 13 c4) L2 wD2) := by rw [hL2]; exact HF0.out
          have HV2 : Hid (Vf2 L2 ∧ L2.routes.length ≤ 13 ∧ 3 ≤ L2.secs.length ∧ L2.secs.length ≤ 8) := by rw [hL2]; exact HV.out
          have HN42 : Hid (L2.routes.length = 13) := by rw [hL2]; exact HN4.out
          have HN12 : Hid (L2.secs.length = n1) := by rw [hL2]; exact HN1.out
          clear HF0 HV HN4 HN1
          have HT2 : Hid (L2.speed = L.speed ∧ L2.mute = L.mute ∧ L2.wait = L.wait ∧ L2.cancel = L.cancel ∧ L2.stay = L.stay) := by rw [hL2]; exact ⟨rfl, rfl, rfl, rfl, rfl⟩
          clear hL2
          obtain ⟨X, hX⟩ : ∃ X, X = nf % n1 := ⟨_, rfl⟩
          obtain ⟨Y, hY⟩ : ∃ Y, Y = nf / 128 := ⟨_, rfl⟩
          have hn18 : 3 ≤ n1 ∧ n1 ≤ 8 := by have h1 := HV2.out.2.2; have h2 := HN12.out; omega
          have hX8 : X < n1 := by rw [hX]; exact Nat.mod_lt _ (by omega)
          have hY2 : Y < 2 := by omega
          have hk1n : ¬ n1 = 0 := by omega
          have hk1i : ¬ (n1 : Int) = 0 := by omega
          have f1 : ((nf : Int)).tmod (n1 : Int) = (X : Int) := by rw [hX, Int.tmod_eq_emod_of_nonneg (by omega)]; omega
          have f2 : ((nf : Int)).tdiv 128 = (Y : Int) := by rw [hY, Int.tdiv_eq_ediv_of_nonneg (by omega)]; omega
          have f1e : (nf : Int) % (n1 : Int) = (X : Int) := by omega
          have f2e : (nf : Int) / 128 = (Y : Int) := by omega
          have hw0 : IntKind.i64.wrap (nf : Int) = (nf : Int) := IntWalk.i64_in _ (by omega)
          have hw1 : IntKind.i64.wrap (X : Int) = (X : Int) := IntWalk.i64_in _ (by omega)
          have hw2 : IntKind.i64.wrap (Y : Int) = (Y : Int) := IntWalk.i64_in _ (by omega)
          clear hX hY
          have HQ : Hid (ESt w nL (.slice A0 n0 c0) (.slice A1 n1 c1) (.slice A2 n2 c2) (.slice A3 n3 c3) (.slice (some ⟨b4, o4, none⟩) 13 c4) L2 wD2.drew) := HF.out.drewN 1
          refine wp_region_still_tail 11 (by kernel_rfl) (by kernel_rfl) ?_
          change wpStill _ _ wD2.drew (fun a' => wpList _ _ _ _ a' wD2.drew) _ _
          clear HF
          generalize wD2.drew = wq at *
          have p0 := HQ.out.row.cell 0
          have p1 := HQ.out.row.cell 1
          have p2 := HQ.out.row.cell 2
          have p3 := HQ.out.row.cell 3
          have p4 := HQ.out.row.cell 4
          have p5 := HQ.out.row.cell 5
          have p6 := HQ.out.row.cell 6
          have p7 := HQ.out.row.cell 7
          have p8 := HQ.out.row.cell 8
          have p9 := HQ.out.row.cell 9
          simp only [layC, List.getElem?_toArray, List.getElem?_cons_zero, List.getElem?_cons_succ] at p0 p1 p2 p3 p4 p5 p6 p7 p8 p9
          simp only [List.take_succ_cons, List.take_zero, List.drop_succ_cons, List.drop_zero]
          repeat still_step
          refine wpStill_nil ?_
          have HWC : Hid (Calls Tryz.prog 15 #[.agg #[.slice A0 n0 c0, .slice A1 n1 c1, .slice A2 n2 c2, .slice A3 n3 c3, .slice (some ⟨b4, o4, none⟩) 13 c4, .int .i64 L2.speed, .int .i64 L2.mute, .int .i64 L2.wait, .int .i64 L2.cancel, .int .i64 L2.stay], .int .i64 (X : Int), .int .i64 (Y : Int), .slice a3 ts.length cap3, .int .i64 14] wq (RetOwn wq.heap.size (walkL L2 (X : Int) (Y : Int) ts 14) wq)) := by
            have hts : Rd wq wq.heap.size (.slice a3 ts.length cap3) (bvals ts) := (HTS.out.below HQ.out.bel (Nat.le_refl _)).mono HQ.out.bel.size (fun _ _ => rfl)
            exact refWalk_any wq wq.heap.size _ L2 (X : Int) (Y : Int) a3 cap3 ts 14 HQ.out.v (Nat.le_refl _) HV2.out.1.v.f hts HBY.out (by omega) (by omega) (by omega)
          go_wp2_with fail
          refine HWC.out.mono ?_; rintro e wN ⟨vW, rfl, hoN, hbN⟩
          clear p0 p1 p2 p3 p4 p5 p6 p7 p8 p9
          have hnd := walkL_nodup L2 (X : Int) (Y : Int) ts 14
          have hp14 := walkL_len L2 (X : Int) (Y : Int) ts 14 (by omega)
          have HRL := Lib.hid ((riseL_len (walkL L2 (X : Int) (Y : Int) ts 14)).2 hnd)
          generalize walkL L2 (X : Int) (Y : Int) ts 14 = p at *
          obtain ⟨Ap, cp, hvp⟩ := own_slice hoN
          subst hvp
          have hqs := HQ.out.row.lt
          have HG : Hid (ESt w nL (.slice A0 n0 c0) (.slice A1 n1 c1) (.slice A2 n2 c2) (.slice A3 n3 c3) (.slice (some ⟨b4, o4, none⟩) 13 c4) L2 wN ∧ wN.ownsRow (nL + 1) 3 1 (.slice Ap p.length cp) p.length (ivals p)) := ⟨HQ.out.call hbN, own_base hoN (by omega)⟩
          have HNL := Lib.hid HG.out.1.row.lt
          clear hoN hbN HQ HWC f1 f2 f1e f2e hw0 hw1 hw2 hnd hqs
          obtain ⟨vs, hvs0, hvl, hvr⟩ := HG.out.1.lay.r
          have hvn : vs.length = 13 := by have := HN42.out; omega
          have HVS : Hid (vs.length = L2.routes.length ∧ ∀ i (h1 : i < vs.length) (h2 : i < L2.routes.length), RdO wN nL vs[i] (ivals L2.routes[i])) := ⟨hvl, hvr⟩
          have HSR : Hid (Sr wN (some ⟨b4, o4, none⟩) 13 c4 1 vs) := by
            have h := Sr.rd hvs0.1 (rows_one hvl (fun i h1 h2 => (hvr i h1 h2).1))
            exact h
          have h13' : 13 ≤ 13 := by have := HV2.out.2.1; have := HN42.out; omega
          clear hvs0 hvl hvr
          obtain ⟨i42, hi42, hz0, hz1, hz2⟩ := info_parts Tryz.info42q
          have p0 := HG.out.1.row.cell 0
          have p1 := HG.out.1.row.cell 1
          have p2 := HG.out.1.row.cell 2
          have p3 := HG.out.1.row.cell 3
          have p4 := HG.out.1.row.cell 4
          have p5 := HG.out.1.row.cell 5
          have p6 := HG.out.1.row.cell 6
          have p7 := HG.out.1.row.cell 7
          have p8 := HG.out.1.row.cell 8
          have p9 := HG.out.1.row.cell 9
          simp only [layC, List.getElem?_toArray, List.getElem?_cons_zero, List.getElem?_cons_succ] at p0 p1 p2 p3 p4 p5 p6 p7 p8 p9
          go_wp2_with (at_builtin; refine wpList_app_new rfl (.const (.slice none 0 0)) (.tmp 52) 30 rfl 42 i42 (.slice none 0 0) 1 24 Tryz.underlying30 hi42 hz0 hz1 hz2 rfl (by decide) rfl (some ⟨b4, o4, none⟩) 13 c4 vs rfl HSR.out (by omega) (by decide) ?_)
          intro v7 w7 hown7 hb7
          clear p0 p1 p2 p3 p4 p5 p6 p7 p8 p9
          clear HSR
          have HLT : Hid (Sr (w7.alloc (.cells #[.slice Ap p.length cp, .slice a1 q.length cap1] 42)) (some ⟨w7.heap.size, 0, none⟩) 2 2 1 [.slice Ap p.length cp, .slice a1 q.length cap1]) :=
            Sr.lit w7 #[.slice Ap p.length cp, .slice a1 q.length cap1] 42 2 1 rfl (by intro u hu; simp at hu; rcases hu with rfl | rfl <;> rfl)
          have HB8 : Hid (Below wN.heap.size wN (w7.alloc (.cells #[.slice Ap p.length cp, .slice a1 q.length cap1] 42))) := hb7.alloc hb7.size _
          have HO8 : Hid ((w7.alloc (.cells #[.slice Ap p.length cp, .slice a1 q.length cap1] 42)).ownsRow wN.heap.size 42 1 v7 13 vs) := own_below hown7 ((Below.refl w7.heap.size w7).alloc (Nat.le_refl _) _)
          clear hown7 hb7
          go_wp2_with (at_builtin; refine wpList_app_src rfl (.tmp 53) (.tmp 56) 30 rfl wN.heap.size 42 i42 (.slice none 0 0) 1 24 Tryz.underlying30 hi42 hz0 hz1 hz2 rfl (by decide) v7 13 vs rfl HO8.out (some ⟨w7.heap.size, 0, none⟩) 2 2 [.slice Ap p.length cp, .slice a1 q.length cap1] rfl HLT.out (by omega) (by decide) HB8.out.size ?_)
          intro v9 w9 hown9 hgr9 _
          have hb9 : Below wN.heap.size wN w9 := HB8.out.trans ⟨hgr9.os, hgr9.tape, hgr9.output, hgr9.size, fun k hk => hgr9.block k (Nat.lt_of_lt_of_le hk HB8.out.size) (fun e => by have := (HO8.out.lt k e.symm).1; omega)⟩
          have HE9 := Lib.hid (HG.out.1.call hb9)
          have HP9 := Lib.hid (own_below HG.out.2 hb9)
          have HR9 : Hid (RowsO w9 nL v9 (L2.routes ++ [p] ++ [q])) := by
            have hnl := HNL.out
            have hne : v9.ownBlock ≠ some nL := fun e => by have := (hown9.lt nL e).1; omega
            have hw : RdO w9 nL (.slice Ap p.length cp) (ivals p) := RdO.of_own HP9.out (fun e => by have := (HP9.out.lt nL e).1; omega)
            have hq : RdO w9 nL (.slice a1 q.length cap1) (ivals q) := RdO.of_lt (HQS.out.below HE9.out.bel (Nat.le_refl _)) HE9.out.le HE9.out.bel.size
            have s1 := snoc_rd HVS.out.1 (fun i h1 h2 => (HVS.out.2 i h1 h2).keep (.of_below hb9)) hw
            have s2 := snoc_rd s1.1 s1.2 hq
            have e : vs ++ [Value.slice Ap p.length cp, Value.slice a1 q.length cap1] = vs ++ [Value.slice Ap p.length cp] ++ [Value.slice a1 q.length cap1] := by simp
            rw [e] at hown9
            exact RowsO.own hown9 hne s2.1 s2.2
          obtain ⟨A9, c9, hv9⟩ := own_slice hown9
          subst hv9
          clear hown9 hgr9 hb9 HB8 HO8 HLT HG HVS
          have p0 := HE9.out.row.cell 0
          have p1 := HE9.out.row.cell 1
          have p2 := HE9.out.row.cell 2
          have p3 := HE9.out.row.cell 3
          have p4 := HE9.out.row.cell 4
          have p5 := HE9.out.row.cell 5
          have p6 := HE9.out.row.cell 6
          have p7 := HE9.out.row.cell 7
          have p8 := HE9.out.row.cell 8
          have p9 := HE9.out.row.cell 9
          simp only [layC, List.getElem?_toArray, List.getElem?_cons_zero, List.getElem?_cons_succ] at p0 p1 p2 p3 p4 p5 p6 p7 p8 p9
          have fz := HE9.out.row.frozen 4
          go_upto_region 8 with (fail)
          clear fz
          clear p0 p1 p2 p3 p4 p5 p6 p7 p8 p9
          have HEA : Hid (ESt w nL (.slice A0 n0 c0) (.slice A1 n1 c1) (.slice A2 n2 c2) (.slice A3 n3 c3) (.slice A9 (13 + 2) c9) { L2 with routes := L2.routes ++ [p] ++ [q] } (w9.setCell ⟨nL, 4, none⟩ (.slice A9 (13 + 2) c9))) :=
            HE9.out.put 4 _ rfl ⟨HE9.out.lay.n, HE9.out.lay.s, HE9.out.lay.p, HE9.out.lay.q, HR9.out⟩
          have HPA : Hid ((w9.setCell ⟨nL, 4, none⟩ (.slice A9 (13 + 2) c9)).ownsRow (nL + 1) 3 1 (.slice Ap p.length cp) p.length (ivals p)) := own_far HP9.out (fun e => by have := (HP9.out.lt nL e).1; omega) _
          have HVA : Hid (Vf2 { L2 with routes := L2.routes ++ [p] ++ [q] }) := by
            refine ⟨⟨⟨HV2.out.1.v.f.s, HV2.out.1.v.f.q, HV2.out.1.v.f.p, HV2.out.1.v.f.r⟩, HV2.out.1.v.n, ?_⟩, fun r hr => ?_⟩
            · have := HV2.out.2.1; show (L2.routes ++ [p] ++ [q]).length ≤ 1000; rw [List.length_append, List.length_append]; simp only [List.length_cons, List.length_nil]; omega
            · have hr2 : r ∈ L2.routes ++ [p] ++ [q] := hr
              rw [List.mem_append, List.mem_append, List.mem_singleton, List.mem_singleton] at hr2
              rcases hr2 with (h | h) | h
              · exact HV2.out.1.r r h
              · rw [h]; omega
              · rw [h]; omega
          clear HE9 HP9 HR9 HV2 HN42 HN12
          generalize w9.setCell ⟨nL, 4, none⟩ (.slice A9 (13 + 2) c9) = wA9 at *
          generalize ({ L2 with routes := L2.routes ++ [p] ++ [q] } : Lay) = LA at *
          have p0 := HEA.out.row.cell 0
          have p1 := HEA.out.row.cell 1
          have p2 := HEA.out.row.cell 2
          have p3 := HEA.out.row.cell 3
          have p4 := HEA.out.row.cell 4
          have p5 := HEA.out.row.cell 5
          have p6 := HEA.out.row.cell 6
          have p7 := HEA.out.row.cell 7
          have p8 := HEA.out.row.cell 8
          have p9 := HEA.out.row.cell 9
          simp only [layC, List.getElem?_toArray, List.getElem?_cons_zero, List.getElem?_cons_succ] at p0 p1 p2 p3 p4 p5 p6 p7 p8 p9
          have hj := judged_any wA9 _ LA HEA.out.v HVA.out
          unfold layC at hj
          have HJ := Lib.hid hj
          clear hj
          go_wp2_with fail
          refine HJ.out.mono ?_; rintro e wB9 ⟨rfl, hbB⟩
          clear p0 p1 p2 p3 p4 p5 p6 p7 p8 p9
          have HZ : Hid (Below w.heap.size w wB9) := (HEA.out.call hbB).bel
          have HPB := Lib.hid (own_below HPA.out hbB)
          clear hbB HJ HEA HPA HVA
          go_wp2_with fail
          refine (refRise_any wB9 _ p (Rd.of_own HPB.out) (by omega)).mono ?_; rintro e wE9 ⟨vE, rfl, hoE, hbE⟩
          obtain ⟨Ae, ce, hve⟩ := own_slice hoE
          subst hve
          rw [HRL.out]
          have HZ2 : Hid (Below w.heap.size w wE9) := HZ.out.trans (hbE.mono HZ.out.size)
          clear hoE hbE HZ HPB
          go_wp2_with fail
          go_ret
          exact ⟨rfl, HZ2.out⟩
        · have i13 : ¬ (13 : Int) < (n4 : Int) := by omega
          go_upto_region 6 with (fail)
          clear p0 p1 p2 p3 p4 p5 p6 p7 p8 p9
          have HF := Lib.hid HE.out
          have HV : Hid (Vf2 L ∧ L.routes.length ≤ 13 ∧ 3 ≤ L.secs.length ∧ L.secs.length ≤ 8) := ⟨HVF.out.1, by have := HN.out.2.2.2.2; omega, HVF.out.2.2⟩
          have HN4 : Hid (L.routes.length = n4) := HN.out.2.2.2.2
          clear HE HN HVF hc4
          obtain ⟨X, hX⟩ : ∃ X, X = nf % n1 := ⟨_, rfl⟩
          obtain ⟨Y, hY⟩ : ∃ Y, Y = nf / 128 := ⟨_, rfl⟩
          have hn18 : 3 ≤ n1 ∧ n1 ≤ 8 := by have h1 := HV.out.2.2; have h2 := HN1.out; omega
          have hX8 : X < n1 := by rw [hX]; exact Nat.mod_lt _ (by omega)
          have hY2 : Y < 2 := by omega
          have hk1n : ¬ n1 = 0 := by omega
          have hk1i : ¬ (n1 : Int) = 0 := by omega
          have f1 : ((nf : Int)).tmod (n1 : Int) = (X : Int) := by rw [hX, Int.tmod_eq_emod_of_nonneg (by omega)]; omega
          have f2 : ((nf : Int)).tdiv 128 = (Y : Int) := by rw [hY, Int.tdiv_eq_ediv_of_nonneg (by omega)]; omega
          have f1e : (nf : Int) % (n1 : Int) = (X : Int) := by omega
          have f2e : (nf : Int) / 128 = (Y : Int) := by omega
          have hw0 : IntKind.i64.wrap (nf : Int) = (nf : Int) := IntWalk.i64_in _ (by omega)
          have hw1 : IntKind.i64.wrap (X : Int) = (X : Int) := IntWalk.i64_in _ (by omega)
          have hw2 : IntKind.i64.wrap (Y : Int) = (Y : Int) := IntWalk.i64_in _ (by omega)
          clear hX hY
          have HQ : Hid (ESt w nL (.slice A0 n0 c0) (.slice A1 n1 c1) (.slice A2 n2 c2) (.slice A3 n3 c3) (.slice A4 n4 c4) L wD.drew) := HF.out.drewN 1
          refine wp_region_still_tail 11 (by kernel_rfl) (by kernel_rfl) ?_
          change wpStill _ _ wD.drew (fun a' => wpList _ _ _ _ a' wD.drew) _ _
          clear HF
          generalize wD.drew = wq at *
          have p0 := HQ.out.row.cell 0
          have p1 := HQ.out.row.cell 1
          have p2 := HQ.out.row.cell 2
          have p3 := HQ.out.row.cell 3
          have p4 := HQ.out.row.cell 4
          have p5 := HQ.out.row.cell 5
          have p6 := HQ.out.row.cell 6
          have p7 := HQ.out.row.cell 7
          have p8 := HQ.out.row.cell 8
          have p9 := HQ.out.row.cell 9
          simp only [layC, List.getElem?_toArray, List.getElem?_cons_zero, List.getElem?_cons_succ] at p0 p1 p2 p3 p4 p5 p6 p7 p8 p9
          simp only [List.take_succ_cons, List.take_zero, List.drop_succ_cons, List.drop_zero]
          repeat still_step
          refine wpStill_nil ?_
          have HWC : Hid (Calls Tryz.prog 15 #[.agg #[.slice A0 n0 c0, .slice A1 n1 c1, .slice A2 n2 c2, .slice A3 n3 c3, .slice A4 n4 c4, .int .i64 L.speed, .int .i64 L.mute, .int .i64 L.wait, .int .i64 L.cancel, .int .i64 L.stay], .int .i64 (X : Int), .int .i64 (Y : Int), .slice a3 ts.length cap3, .int .i64 14] wq (RetOwn wq.heap.size (walkL L (X : Int) (Y : Int) ts 14) wq)) := by
            have hts : Rd wq wq.heap.size (.slice a3 ts.length cap3) (bvals ts) := (HTS.out.below HQ.out.bel (Nat.le_refl _)).mono HQ.out.bel.size (fun _ _ => rfl)
            exact refWalk_any wq wq.heap.size _ L (X : Int) (Y : Int) a3 cap3 ts 14 HQ.out.v (Nat.le_refl _) HV.out.1.v.f hts HBY.out (by omega) (by omega) (by omega)
          go_wp2_with fail
          refine HWC.out.mono ?_; rintro e wN ⟨vW, rfl, hoN, hbN⟩
          clear p0 p1 p2 p3 p4 p5 p6 p7 p8 p9
          have hnd := walkL_nodup L (X : Int) (Y : Int) ts 14
          have hp14 := walkL_len L (X : Int) (Y : Int) ts 14 (by omega)
          have HRL := Lib.hid ((riseL_len (walkL L (X : Int) (Y : Int) ts 14)).2 hnd)
          generalize walkL L (X : Int) (Y : Int) ts 14 = p at *
          obtain ⟨Ap, cp, hvp⟩ := own_slice hoN
          subst hvp
          have hqs := HQ.out.row.lt
          have HG : Hid (ESt w nL (.slice A0 n0 c0) (.slice A1 n1 c1) (.slice A2 n2 c2) (.slice A3 n3 c3) (.slice A4 n4 c4) L wN ∧ wN.ownsRow (nL + 1) 3 1 (.slice Ap p.length cp) p.length (ivals p)) := ⟨HQ.out.call hbN, own_base hoN (by omega)⟩
          have HNL := Lib.hid HG.out.1.row.lt
          clear hoN hbN HQ HWC f1 f2 f1e f2e hw0 hw1 hw2 hnd hqs
          obtain ⟨vs, hvs0, hvl, hvr⟩ := HG.out.1.lay.r
          have hvn : vs.length = n4 := by have := HN4.out; omega
          have HVS : Hid (vs.length = L.routes.length ∧ ∀ i (h1 : i < vs.length) (h2 : i < L.routes.length), RdO wN nL vs[i] (ivals L.routes[i])) := ⟨hvl, hvr⟩
          have HSR : Hid (Sr wN A4 n4 c4 1 vs) := by
            have h := Sr.rd hvs0.1 (rows_one hvl (fun i h1 h2 => (hvr i h1 h2).1))
            exact h
          have h13' : n4 ≤ 13 := by have := HV.out.2.1; have := HN4.out; omega
          clear hvs0 hvl hvr
          obtain ⟨i42, hi42, hz0, hz1, hz2⟩ := info_parts Tryz.info42q
          have p0 := HG.out.1.row.cell 0
          have p1 := HG.out.1.row.cell 1
          have p2 := HG.out.1.row.cell 2
          have p3 := HG.out.1.row.cell 3
          have p4 := HG.out.1.row.cell 4
          have p5 := HG.out.1.row.cell 5
          have p6 := HG.out.1.row.cell 6
          have p7 := HG.out.1.row.cell 7
          have p8 := HG.out.1.row.cell 8
          have p9 := HG.out.1.row.cell 9
          simp only [layC, List.getElem?_toArray, List.getElem?_cons_zero, List.getElem?_cons_succ] at p0 p1 p2 p3 p4 p5 p6 p7 p8 p9
          go_wp2_with (at_builtin; refine wpList_app_new rfl (.const (.slice none 0 0)) (.tmp 52) 30 rfl 42 i42 (.slice none 0 0) 1 24 Tryz.underlying30 hi42 hz0 hz1 hz2 rfl (by decide) rfl A4 n4 c4 vs rfl HSR.out (by omega) (by decide) ?_)
          intro v7 w7 hown7 hb7
          clear p0 p1 p2 p3 p4 p5 p6 p7 p8 p9
          clear HSR
          have HLT : Hid (Sr (w7.alloc (.cells #[.slice Ap p.length cp, .slice a1 q.length cap1] 42)) (some ⟨w7.heap.size, 0, none⟩) 2 2 1 [.slice Ap p.length cp, .slice a1 q.length cap1]) :=
            Sr.lit w7 #[.slice Ap p.length cp, .slice a1 q.length cap1] 42 2 1 rfl (by intro u hu; simp at hu; rcases hu with rfl | rfl <;> rfl)
          have HB8 : Hid (Below wN.heap.size wN (w7.alloc (.cells #[.slice Ap p.length cp, .slice a1 q.length cap1] 42))) := hb7.alloc hb7.size _
          have HO8 : Hid ((w7.alloc (.cells #[.slice Ap p.length cp, .slice a1 q.length cap1] 42)).ownsRow wN.heap.size 42 1 v7 n4 vs) := own_below hown7 ((Below.refl w7.heap.size w7).alloc (Nat.le_refl _) _)
          clear hown7 hb7
          go_wp2_with (at_builtin; refine wpList_app_src rfl (.tmp 53) (.tmp 56) 30 rfl wN.heap.size 42 i42 (.slice none 0 0) 1 24 Tryz.underlying30 hi42 hz0 hz1 hz2 rfl (by decide) v7 n4 vs rfl HO8.out (some ⟨w7.heap.size, 0, none⟩) 2 2 [.slice Ap p.length cp, .slice a1 q.length cap1] rfl HLT.out (by omega) (by decide) HB8.out.size ?_)
          intro v9 w9 hown9 hgr9 _
          have hb9 : Below wN.heap.size wN w9 := HB8.out.trans ⟨hgr9.os, hgr9.tape, hgr9.output, hgr9.size, fun k hk => hgr9.block k (Nat.lt_of_lt_of_le hk HB8.out.size) (fun e => by have := (HO8.out.lt k e.symm).1; omega)⟩
          have HE9 := Lib.hid (HG.out.1.call hb9)
          have HP9 := Lib.hid (own_below HG.out.2 hb9)
          have HR9 : Hid (RowsO w9 nL v9 (L.routes ++ [p] ++ [q])) := by
            have hnl := HNL.out
            have hne : v9.ownBlock ≠ some nL := fun e => by have := (hown9.lt nL e).1; omega
            have hw : RdO w9 nL (.slice Ap p.length cp) (ivals p) := RdO.of_own HP9.out (fun e => by have := (HP9.out.lt nL e).1; omega)
            have hq : RdO w9 nL (.slice a1 q.length cap1) (ivals q) := RdO.of_lt (HQS.out.below HE9.out.bel (Nat.le_refl _)) HE9.out.le HE9.out.bel.size
            have s1 := snoc_rd HVS.out.1 (fun i h1 h2 => (HVS.out.2 i h1 h2).keep (.of_below hb9)) hw
            have s2 := snoc_rd s1.1 s1.2 hq
            have e : vs ++ [Value.slice Ap p.length cp, Value.slice a1 q.length cap1] = vs ++ [Value.slice Ap p.length cp] ++ [Value.slice a1 q.length cap1] := by simp
            rw [e] at hown9
            exact RowsO.own hown9 hne s2.1 s2.2
          obtain ⟨A9, c9, hv9⟩ := own_slice hown9
          subst hv9
          clear hown9 hgr9 hb9 HB8 HO8 HLT HG HVS
          have p0 := HE9.out.row.cell 0
          have p1 := HE9.out.row.cell 1
          have p2 := HE9.out.row.cell 2
          have p3 := HE9.out.row.cell 3
          have p4 := HE9.out.row.cell 4
          have p5 := HE9.out.row.cell 5
          have p6 := HE9.out.row.cell 6
          have p7 := HE9.out.row.cell 7
          have p8 := HE9.out.row.cell 8
          have p9 := HE9.out.row.cell 9
          simp only [layC, List.getElem?_toArray, List.getElem?_cons_zero, List.getElem?_cons_succ] at p0 p1 p2 p3 p4 p5 p6 p7 p8 p9
          have fz := HE9.out.row.frozen 4
          go_upto_region 8 with (fail)
          clear fz
          clear p0 p1 p2 p3 p4 p5 p6 p7 p8 p9
          have HEA : Hid (ESt w nL (.slice A0 n0 c0) (.slice A1 n1 c1) (.slice A2 n2 c2) (.slice A3 n3 c3) (.slice A9 (n4 + 2) c9) { L with routes := L.routes ++ [p] ++ [q] } (w9.setCell ⟨nL, 4, none⟩ (.slice A9 (n4 + 2) c9))) :=
            HE9.out.put 4 _ rfl ⟨HE9.out.lay.n, HE9.out.lay.s, HE9.out.lay.p, HE9.out.lay.q, HR9.out⟩
          have HPA : Hid ((w9.setCell ⟨nL, 4, none⟩ (.slice A9 (n4 + 2) c9)).ownsRow (nL + 1) 3 1 (.slice Ap p.length cp) p.length (ivals p)) := own_far HP9.out (fun e => by have := (HP9.out.lt nL e).1; omega) _
          have HVA : Hid (Vf2 { L with routes := L.routes ++ [p] ++ [q] }) := by
            refine ⟨⟨⟨HV.out.1.v.f.s, HV.out.1.v.f.q, HV.out.1.v.f.p, HV.out.1.v.f.r⟩, HV.out.1.v.n, ?_⟩, fun r hr => ?_⟩
            · have := HV.out.2.1; show (L.routes ++ [p] ++ [q]).length ≤ 1000; rw [List.length_append, List.length_append]; simp only [List.length_cons, List.length_nil]; omega
            · have hr2 : r ∈ L.routes ++ [p] ++ [q] := hr
              rw [List.mem_append, List.mem_append, List.mem_singleton, List.mem_singleton] at hr2
              rcases hr2 with (h | h) | h
              · exact HV.out.1.r r h
              · rw [h]; omega
              · rw [h]; omega
          clear HE9 HP9 HR9 HV HN4 HN1
          generalize w9.setCell ⟨nL, 4, none⟩ (.slice A9 (n4 + 2) c9) = wA9 at *
          generalize ({ L with routes := L.routes ++ [p] ++ [q] } : Lay) = LA at *
          have p0 := HEA.out.row.cell 0
          have p1 := HEA.out.row.cell 1
          have p2 := HEA.out.row.cell 2
          have p3 := HEA.out.row.cell 3
          have p4 := HEA.out.row.cell 4
          have p5 := HEA.out.row.cell 5
          have p6 := HEA.out.row.cell 6
          have p7 := HEA.out.row.cell 7
          have p8 := HEA.out.row.cell 8
          have p9 := HEA.out.row.cell 9
          simp only [layC, List.getElem?_toArray, List.getElem?_cons_zero, List.getElem?_cons_succ] at p0 p1 p2 p3 p4 p5 p6 p7 p8 p9
          have hj := judged_any wA9 _ LA HEA.out.v HVA.out
          unfold layC at hj
          have HJ := Lib.hid hj
          clear hj
          go_wp2_with fail
          refine HJ.out.mono ?_; rintro e wB9 ⟨rfl, hbB⟩
          clear p0 p1 p2 p3 p4 p5 p6 p7 p8 p9
          have HZ : Hid (Below w.heap.size w wB9) := (HEA.out.call hbB).bel
          have HPB := Lib.hid (own_below HPA.out hbB)
          clear hbB HJ HEA HPA HVA
          go_wp2_with fail
          refine (refRise_any wB9 _ p (Rd.of_own HPB.out) (by omega)).mono ?_; rintro e wE9 ⟨vE, rfl, hoE, hbE⟩
          obtain ⟨Ae, ce, hve⟩ := own_slice hoE
          subst hve
          rw [HRL.out]
          have HZ2 : Hid (Below w.heap.size w wE9) := HZ.out.trans (hbE.mono HZ.out.size)
          clear hoE hbE HZ HPB
          go_wp2_with fail
          go_ret
          exact ⟨rfl, HZ2.out⟩
      · have h20i : (20 : Int) < (ts.length : Int) := by omega
        have h20n : 20 < ts.length := by omega
        go_enter Tryz.func6, Tryz.ntmps6
        go_upto_region 1 with (fail)
        obtain ⟨g0, hg0⟩ : ∃ n, n = w.heap.size := ⟨_, rfl⟩
        rw [← hg0] at HRW ⊢
        have HG0 : Hid (g0 = w.heap.size) := hg0
        generalize w.alloc (.cells #[.int .u8 (d0.form : Int), .int .u8 (d0.len : Int), .int .u8 (d0.speed : Int), .int .u16 (d0.mute : Int), .int .u16 (d0.wait : Int), .int .u8 (d0.cancel : Int), .int .u8 (d0.stay : Int), .int .u8 (d0.join : Int), .slice Ar kr cr] 25) = W0 at *
        clear hg0
        go_wp2_with fail
        refine (nothing_any _).mono ?_; rintro e wA ⟨rfl, hbA⟩
        have HA := Lib.hid (HB0.out.trans (hbA.mono HB0.out.size))
        have HRA := Lib.hid (Below.row hbA HRW.out HRW.out.lt)
        have HBA := Lib.hid (HBR.out.up hbA)
        clear hbA HB0 HRW HBR
        have f0 := HRA.out.cell 0
        have f1 := HRA.out.cell 1
        have f2 := HRA.out.cell 2
        have f3 := HRA.out.cell 3
        have f4 := HRA.out.cell 4
        have f5 := HRA.out.cell 5
        have f6 := HRA.out.cell 6
        have f7 := HRA.out.cell 7
        have f8 := HRA.out.cell 8
        simp only [List.getElem?_toArray, List.getElem?_cons_zero, List.getElem?_cons_succ] at f0 f1 f2 f3 f4 f5 f6 f7 f8
        go_wp2_with fail
        refine (small_any wA d0 (.slice Ar kr cr) HBA.out HL.out.1 HL.out.2).mono ?_; rintro e wB ⟨rfl, hbB⟩
        clear f0 f1 f2 f3 f4 f5 f6 f7 f8
        rw [hs]
        have HB := Lib.hid (HA.out.trans (hbB.mono HA.out.size))
        have HRB := Lib.hid (Below.row hbB HRA.out HRA.out.lt)
        have HBB := Lib.hid (HBA.out.up hbB)
        clear hbB HA HRA HBA
        go_wp2_with fail
        refine (nothing_any _).mono ?_; rintro e wZ ⟨rfl, hbZ⟩
        have HZ := Lib.hid (HB.out.trans (hbZ.mono HB.out.size))
        clear hbZ
        go_wp2_with fail
        go_ret
        exact ⟨rfl, by rw [← HG0.out] at HZ ⊢; exact HZ.out⟩
    · have h10i : (20 : Int) < (q.length : Int) := by omega
      have h10n : 20 < q.length := by omega
      go_enter Tryz.func6, Tryz.ntmps6
      go_upto_region 1 with (fail)
      obtain ⟨g0, hg0⟩ : ∃ n, n = w.heap.size := ⟨_, rfl⟩
      rw [← hg0] at HRW ⊢
      have HG0 : Hid (g0 = w.heap.size) := hg0
      generalize w.alloc (.cells #[.int .u8 (d0.form : Int), .int .u8 (d0.len : Int), .int .u8 (d0.speed : Int), .int .u16 (d0.mute : Int), .int .u16 (d0.wait : Int), .int .u8 (d0.cancel : Int), .int .u8 (d0.stay : Int), .int .u8 (d0.join : Int), .slice Ar kr cr] 25) = W0 at *
      clear hg0
      go_wp2_with fail
      refine (nothing_any _).mono ?_; rintro e wA ⟨rfl, hbA⟩
      have HA := Lib.hid (HB0.out.trans (hbA.mono HB0.out.size))
      have HRA := Lib.hid (Below.row hbA HRW.out HRW.out.lt)
      have HBA := Lib.hid (HBR.out.up hbA)
      clear hbA HB0 HRW HBR
      have f0 := HRA.out.cell 0
      have f1 := HRA.out.cell 1
      have f2 := HRA.out.cell 2
      have f3 := HRA.out.cell 3
      have f4 := HRA.out.cell 4
      have f5 := HRA.out.cell 5
      have f6 := HRA.out.cell 6
      have f7 := HRA.out.cell 7
      have f8 := HRA.out.cell 8
      simp only [List.getElem?_toArray, List.getElem?_cons_zero, List.getElem?_cons_succ] at f0 f1 f2 f3 f4 f5 f6 f7 f8
      go_wp2_with fail
      refine (small_any wA d0 (.slice Ar kr cr) HBA.out HL.out.1 HL.out.2).mono ?_; rintro e wB ⟨rfl, hbB⟩
      clear f0 f1 f2 f3 f4 f5 f6 f7 f8
      rw [hs]
      have HB := Lib.hid (HA.out.trans (hbB.mono HA.out.size))
      have HRB := Lib.hid (Below.row hbB HRA.out HRA.out.lt)
      have HBB := Lib.hid (HBA.out.up hbB)
      clear hbB HA HRA HBA
      go_wp2_with fail
      refine (nothing_any _).mono ?_; rintro e wZ ⟨rfl, hbZ⟩
      have HZ := Lib.hid (HB.out.trans (hbZ.mono HB.out.size))
      clear hbZ
      go_wp2_with fail
      go_ret
      exact ⟨rfl, by rw [← HG0.out] at HZ ⊢; exact HZ.out⟩

theorem lifted (os : Os) (started : os.Started) (H : Type) (enc : TypeId × Value → H) :
    ReturnsInHanded {} Tryz.checked os 6 .any (Rows.verifyRoutesSpec.pre6 enc Tryz.prog Tryz.f6 Rows.verifyRoutesRow.domain false) (Rows.verifyRoutesSpec.post enc Tryz.prog Tryz.f6 false true false false) := by
  refine returnsInHanded_of_change (C := Tryz.checked) own started (by kernel_rfl) Tryz.func6
    (ChangeSpec.witness6 (enc := enc) (C := Tryz.checked) false ⟨#[], #[.agg #[.int .u8 0, .int .u8 0, .int .u8 0, .int .u16 0, .int .u16 0, .int .u8 0, .int .u8 0, .int .u8 0, .slice none 0 0], .slice none 0 0, .int .u8 0, .slice none 0 0], []⟩ 8 (by kernel_rfl) (by kernel_rfl) (by kernel_rfl) (by kernel_rfl)) ?_
  intro W base args ds gs before hval0 hW hcnd _
  have hval : ∀ (j : Nat) t v, Tryz.f6.params[j]? = some t → args[j]? = some v → Value.okWide Tryz.prog W .any base t v := hval0
  have hW' := hW
  obtain ⟨p, q, hA0, hV, rfl, hfz, hnd⟩ := hW
  have hA : DataW.TrodAll enc Tryz.prog W 0 (fun _ => true) true Tryz.f6.params.toList args.toList ds p := hA0
  rw [Tryz.params6] at hA hval
  obtain ⟨v0, vs0, d0, ds0, p0, q0, hargs, rfl, rfl, h0, r0⟩ := trodAll_cons hA
  obtain ⟨v1, vs1, d1, ds1, p1, q1, rfl, rfl, rfl, h1, r1⟩ := trodAll_cons r0
  obtain ⟨v2, vs2, d2, ds2, p2, q2, rfl, rfl, rfl, h2, r2⟩ := trodAll_cons r1
  obtain ⟨v3, vs3, d3, ds3, p3, q3, rfl, rfl, rfl, h3, r3⟩ := trodAll_cons r2
  obtain ⟨rfl, rfl, rfl⟩ := trodAll_nil r3
  obtain rfl : args = #[v0, v1, v2, v3] := by cases args; simp_all
  obtain ⟨rfl, rfl⟩ := trodVars_none hV
  have k0 := h0
  have lt0 : ∀ x ∈ p0, x.block < W.heap.size := by obtain ⟨m, hm⟩ := k0; exact DataW.trod_lt m _ _ _ hm
  obtain ⟨e0, vr0, hv0, w0⟩ := draft_of_trod (hval 0 25 v0 rfl rfl) h0
  subst hv0
  obtain ⟨a1, len1, cap1, rfl⟩ := okWide_slice Tryz.underlying42 (hval 1 42 v1 rfl rfl)
  have k1 := h1
  have lt1 : ∀ x ∈ p1, x.block < W.heap.size := by obtain ⟨m, hm⟩ := k1; exact DataW.trod_lt m _ _ _ hm
  obtain ⟨z1, w1⟩ : ∃ zs, IsRow .i64 W a1 len1 cap1 zs := by
    obtain ⟨fuel, hf⟩ := h1
    rcases open_ints Tryz.underlying42 Tryz.underlying3 (by kernel_rfl) hf with ⟨hcs, _⟩ | ⟨x, l, c, zs, hcs, _, hl, hm, hz, _, hcell, hwz⟩
    · simp [Value.cells] at hcs
      obtain ⟨rfl, rfl, rfl⟩ := hcs
      exact ⟨[], .inl ⟨rfl, rfl, rfl, rfl⟩⟩
    · simp [Value.cells] at hcs
      obtain ⟨rfl, rfl, rfl⟩ := hcs
      exact ⟨zs, .inr ⟨_, rfl, hl, hm, by simpa using hz, hcell, hwz⟩⟩
  obtain ⟨a2, rfl, rfl, rfl, w2⟩ := open_int Tryz.underlying5 (hval 2 5 v2 rfl rfl) h2
  obtain ⟨a3, len3, cap3, rfl⟩ := okWide_slice Tryz.underlying45 (hval 3 45 v3 rfl rfl)
  have k3 := h3
  have lt3 : ∀ x ∈ p3, x.block < W.heap.size := by obtain ⟨m, hm⟩ := k3; exact DataW.trod_lt m _ _ _ hm
  obtain ⟨z3, w3⟩ : ∃ zs, IsRow .u8 W a3 len3 cap3 zs := by
    obtain ⟨fuel, hf⟩ := h3
    rcases open_ints Tryz.underlying45 Tryz.underlying5 (by kernel_rfl) hf with ⟨hcs, _⟩ | ⟨x, l, c, zs, hcs, _, hl, hm, hz, _, hcell, hwz⟩
    · simp [Value.cells] at hcs
      obtain ⟨rfl, rfl, rfl⟩ := hcs
      exact ⟨[], .inl ⟨rfl, rfl, rfl, rfl⟩⟩
    · simp [Value.cells] at hcs
      obtain ⟨rfl, rfl, rfl⟩ := hcs
      exact ⟨zs, .inr ⟨_, rfl, hl, hm, by simpa using hz, hcell, hwz⟩⟩
  clear hA0 hval0
  refine (walk e0 vr0 a1 len1 cap1 z1 a2 a3 len3 cap3 z3 W w0 w1 w2 w3).mono fun e W' ⟨he, bel⟩ => ?_
  subst he
  exact ⟨_, rfl, _, _, _, [], _, [], hW', trodAll_mk1 (shut_bool Tryz.underlying4 _), (trodAll_cons_mk (Below.trod laidOut (by kernel_rfl) (of_decide_eq_true (by kernel_rfl)) k0 bel lt0) (trodAll_cons_mk (Below.trod laidOut (by kernel_rfl) (of_decide_eq_true (by kernel_rfl)) k1 bel lt1) (trodAll_cons_mk (shut_int Tryz.underlying5 w2) (trodAll_cons_mk (Below.trod laidOut (by kernel_rfl) (of_decide_eq_true (by kernel_rfl)) k3 bel lt3) trodAll_mk0)))), rfl, bel.frame _, fun h => by cases h⟩

theorem over : Rows.verifyRoutesRow.holds Tryz.pinned (OpenSpec.ofChange Rows.verifyRoutesSpec) :=
  OpenClaim.holds_of_wide 6 Tryz.f6 rfl rfl rfl rfl rfl rfl rfl ⟨rfl, rfl, rfl, rfl, rfl⟩ rfl rfl rfl rfl rfl (by kernel_rfl) Tryz.func6 (by kernel_rfl)
    (of_decide_eq_true (by kernel_rfl)) (by unfold Func.isWrapper; first | (rw [if_pos (by decide +kernel)]; kernel_rfl) | (rw [if_neg (by decide +kernel)]; exact ⟨rfl, rfl⟩))
    (fun os started H enc _ => lifted os started H enc)

theorem proved : Rows.VerifyRoutesSaid := over
#print axioms proved
end Go.Proofs.YtagkgejdammflaaGreat.verifyRoutes
