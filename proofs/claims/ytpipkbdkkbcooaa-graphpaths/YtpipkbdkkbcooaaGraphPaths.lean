/-
  PROVED: for every input the law GraphPaths returns true and leaves its arguments as they were: may a train go through some sections? As the document has it: through those that one comes through by going on, those in which something is another thing, any. No condition.
-/
import Derived.Test.YtpipkbdkkbcooaaRows
import Derived.Test.YtpipkbdkkbcooaaPHead
import Derived.WalkKit
import Derived.ProofKit
import Derived.OpenShut
import Derived.ShutString
import Derived.ChangeOld
import Derived.Below
import Derived.Maps.AppendAt
namespace Go.Proofs.Ytpipkbdkkbcooaa.graphPaths
open Go.ChangeShapes Go.WideShapes Go.ChangeAt Go.RowKit
open Go.ChangeMaps (open_string shut_string)
set_option linter.unusedVariables false
set_option maxRecDepth 100000

theorem own : ownKnob Try.prog.godebug = none := by kernel_rfl
theorem laidOut : laidOutB Try.prog = true := by kernel_rfl

/-- What is known of a slice of integers that came in: nil, or a row of 'cap' cells. -/
def IsRow (k : IntKind) (w : World) (a : Option Addr) (len cap : Nat) (zs : List Int) : Prop :=
  (a = none ∧ len = 0 ∧ cap = 0 ∧ zs = []) ∨
  ∃ x, a = some x ∧ len ≤ cap ∧ cap ≤ maxLen ∧ zs.length = cap ∧ (∀ i, i < zs.length → w.cell? (x.add i) = some (.int k (zs.getD i 0))) ∧ ∀ n ∈ zs, (Lit.int k n).wf = true

theorem own_zero {w : World} {B n c : Nat} {e : TypeId} {s : Nat} {b o : Nat} {m : Nat} {xs : List Value} (h : w.ownsRow B e s (.slice (some ⟨b, o, none⟩) n c) m xs) : o = 0 := by
  rcases h.2 with ⟨hv, _⟩ | ⟨g, cap, cur, hv, _⟩
  · cases hv
  · injection hv with hv
    injection hv with hv
    injection hv

set_option maxHeartbeats 8000000 in
theorem walk (d0 : Dr) (vr0 : Value) (a1 : Int) (a2 : Option Addr) (len2 cap2 : Nat) (z2 : List Int) (a3 : Int) (a4 : Int) (a5 : Option Addr) (len5 cap5 : Nat) (z5 : List Int) (w : World) (w0 : DrOk d0 ∧ BRows w w.heap.size vr0 d0.routes ∧ d0.routes.length ≤ 9223372036854775807 ∧ ∀ r ∈ d0.routes, r.length ≤ 9223372036854775807) (w1 : (Lit.int .u8 a1).wf = true) (w2 : IsRow .u8 w a2 len2 cap2 z2) (w3 : (Lit.int .u8 a3).wf = true) (w4 : (Lit.int .u8 a4).wf = true) (w5 : IsRow .i64 w a5 len5 cap5 z5) :
    Calls Try.prog 5 #[drV d0 vr0, .int .u8 a1, .slice a2 len2 cap2, .int .u8 a3, .int .u8 a4, .slice a5 len5 cap5] w fun e w' => e = .returned (.bool true) ∧ Below w.heap.size w w' := by
  obtain ⟨n1, hn1, hn2⟩ := u8_nat w1
  obtain ⟨n3, hn3, hn3b⟩ := u8_nat w3
  obtain ⟨n4, hn4, hn4b⟩ := u8_nat w4
  subst hn1 hn3 hn4
  obtain ⟨ts, htl, hby, hts⟩ := arg_any w2
  obtain ⟨ms, hml, hms⟩ := arg_ints w5
  subst htl hml
  have HTS := Lib.hid hts
  have HBY := Lib.hid hby
  have HMS := Lib.hid hms
  clear w1 w2 w3 w4 w5 hts hby hms
  obtain ⟨hd, hbr, hl, hrl⟩ := w0
  obtain ⟨Ar, kr, cr, hvr⟩ : ∃ A k c, vr0 = .slice A k c := by obtain ⟨vs, ⟨A, c, e, _⟩, _⟩ := hbr; exact ⟨A, _, c, e⟩
  subst hvr
  have HDK := Lib.hid hd
  have HL : Hid (d0.routes.length ≤ 9223372036854775807 ∧ ∀ r ∈ d0.routes, r.length ≤ 9223372036854775807) := ⟨hl, hrl⟩
  clear hd hl hrl
  have hb0 := (Below.refl w.heap.size w).alloc (Nat.le_refl _) (.cells #[.int .u8 (d0.form : Int), .int .u8 (d0.len : Int), .int .u8 (d0.speed : Int), .int .u16 (d0.mute : Int), .int .u16 (d0.wait : Int), .int .u8 (d0.cancel : Int), .int .u8 (d0.stay : Int), .int .u8 (d0.join : Int), .slice Ar kr cr] 25)
  have HB0 := Lib.hid hb0
  have HBR := Lib.hid (hbr.up hb0)
  have HRW := Lib.hid (Row.new w 25 #[.int .u8 (d0.form : Int), .int .u8 (d0.len : Int), .int .u8 (d0.speed : Int), .int .u16 (d0.mute : Int), .int .u16 (d0.wait : Int), .int .u8 (d0.cancel : Int), .int .u8 (d0.stay : Int), .int .u8 (d0.join : Int), .slice Ar kr cr])
  clear hb0 hbr
  unfold drV
  cases hs : small d0 with
  | false =>
    go_enter Try.func5, Try.ntmps5
    go_upto_region 1 with (fail)
    obtain ⟨g0, hg0⟩ : ∃ n, n = w.heap.size := ⟨_, rfl⟩
    rw [← hg0] at HRW ⊢
    have HG0 : Hid (g0 = w.heap.size) := hg0
    generalize w.alloc (.cells #[.int .u8 (d0.form : Int), .int .u8 (d0.len : Int), .int .u8 (d0.speed : Int), .int .u16 (d0.mute : Int), .int .u16 (d0.wait : Int), .int .u8 (d0.cancel : Int), .int .u8 (d0.stay : Int), .int .u8 (d0.join : Int), .slice Ar kr cr] 25) = W0 at *
    clear hg0
    go_wp2_with fail
    refine (joins_any _).mono ?_; rintro e wA ⟨rfl, hbA⟩
    have HA := Lib.hid (HB0.out.trans (hbA.mono HB0.out.size))
    have HRA := Lib.hid (Below.row hbA HRW.out HRW.out.lt)
    have HBA := Lib.hid (HBR.out.up hbA)
    clear hbA HB0 HRW HBR
    have f0 := HRA.out.cell 0
    have f1 := HRA.out.cell 1
    have f2 := HRA.out.cell 2
    have f3 := HRA.out.cell 3
    have f4 := HRA.out.cell 4
    have f5 := HRA.out.cell 5
    have f6 := HRA.out.cell 6
    have f7 := HRA.out.cell 7
    have f8 := HRA.out.cell 8
    simp only [List.getElem?_toArray, List.getElem?_cons_zero, List.getElem?_cons_succ] at f0 f1 f2 f3 f4 f5 f6 f7 f8
    go_wp2_with fail
    refine (small_any wA d0 (.slice Ar kr cr) HBA.out HL.out.1 HL.out.2).mono ?_; rintro e wB ⟨rfl, hbB⟩
    clear f0 f1 f2 f3 f4 f5 f6 f7 f8
    rw [hs]
    have HB := Lib.hid (HA.out.trans (hbB.mono HA.out.size))
    have HRB := Lib.hid (Below.row hbB HRA.out HRA.out.lt)
    have HBB := Lib.hid (HBA.out.up hbB)
    clear hbB HA HRA HBA
    go_wp2_with fail
    refine (joins_any _).mono ?_; rintro e wZ ⟨rfl, hbZ⟩
    have HZ := Lib.hid (HB.out.trans (hbZ.mono HB.out.size))
    clear hbZ
    go_wp2_with fail
    go_ret
    exact ⟨rfl, by rw [← HG0.out] at HZ ⊢; exact HZ.out⟩
  | true =>
    have HS := Lib.hid hs
    by_cases h20 : ts.length ≤ 20
    · have h20i : ¬ (20 : Int) < (ts.length : Int) := by omega
      have h20n : ¬ 20 < ts.length := by omega
      by_cases h10 : ms.length ≤ 10
      · have h10i : ¬ (10 : Int) < (ms.length : Int) := by omega
        have h10n : ¬ 10 < ms.length := by omega
        go_enter Try.func5, Try.ntmps5
        go_upto_region 1 with (fail)
        obtain ⟨g0, hg0⟩ : ∃ n, n = w.heap.size := ⟨_, rfl⟩
        rw [← hg0] at HRW ⊢
        have HG0 : Hid (g0 = w.heap.size) := hg0
        generalize w.alloc (.cells #[.int .u8 (d0.form : Int), .int .u8 (d0.len : Int), .int .u8 (d0.speed : Int), .int .u16 (d0.mute : Int), .int .u16 (d0.wait : Int), .int .u8 (d0.cancel : Int), .int .u8 (d0.stay : Int), .int .u8 (d0.join : Int), .slice Ar kr cr] 25) = W0 at *
        clear hg0
        go_wp2_with fail
        refine (joins_any _).mono ?_; rintro e wA ⟨rfl, hbA⟩
        have HA := Lib.hid (HB0.out.trans (hbA.mono HB0.out.size))
        have HRA := Lib.hid (Below.row hbA HRW.out HRW.out.lt)
        have HBA := Lib.hid (HBR.out.up hbA)
        clear hbA HB0 HRW HBR
        have f0 := HRA.out.cell 0
        have f1 := HRA.out.cell 1
        have f2 := HRA.out.cell 2
        have f3 := HRA.out.cell 3
        have f4 := HRA.out.cell 4
        have f5 := HRA.out.cell 5
        have f6 := HRA.out.cell 6
        have f7 := HRA.out.cell 7
        have f8 := HRA.out.cell 8
        simp only [List.getElem?_toArray, List.getElem?_cons_zero, List.getElem?_cons_succ] at f0 f1 f2 f3 f4 f5 f6 f7 f8
        go_wp2_with fail
        refine (small_any wA d0 (.slice Ar kr cr) HBA.out HL.out.1 HL.out.2).mono ?_; rintro e wB ⟨rfl, hbB⟩
        clear f0 f1 f2 f3 f4 f5 f6 f7 f8
        rw [hs]
        have HB := Lib.hid (HA.out.trans (hbB.mono HA.out.size))
        have HRB := Lib.hid (Below.row hbB HRA.out HRA.out.lt)
        have HBB := Lib.hid (HBA.out.up hbB)
        clear hbB HA HRA HBA
        have f0 := HRB.out.cell 0
        have f1 := HRB.out.cell 1
        have f2 := HRB.out.cell 2
        have f3 := HRB.out.cell 3
        have f4 := HRB.out.cell 4
        have f5 := HRB.out.cell 5
        have f6 := HRB.out.cell 6
        have f7 := HRB.out.cell 7
        have f8 := HRB.out.cell 8
        simp only [List.getElem?_toArray, List.getElem?_cons_zero, List.getElem?_cons_succ] at f0 f1 f2 f3 f4 f5 f6 f7 f8
        go_wp2_with fail
        refine (full_any wB d0 (.slice Ar kr cr) HDK.out HBB.out hs).mono ?_; rintro e wC ⟨vL, rfl, hvL, hbL⟩
        clear f0 f1 f2 f3 f4 f5 f6 f7 f8
        have HC := Lib.hid (HB.out.trans (hbL.mono HB.out.size))
        clear hbL HB HRB HBB
        have HFT : Hid (Fits (fullL d0)) := fullL_fits d0
        have HWK : Hid (∀ (s : Nat) (_ : s < (fullL d0).secs.length) (k : Int) (_ : k = 0 ∨ k = 1) (ts : List Nat), needsOk (fullL d0) k (walkL (fullL d0) (s : Int) k ts 12) = true) := walks_any d0
        have HEQ : Hid (∀ p, pathL (fullL d0) p = pathR (fullL d0) p) := path_eq d0
        have HSL : Hid (3 ≤ (fullL d0).secs.length ∧ (fullL d0).secs.length ≤ 8 ∧ (fullL d0).points.length ≤ 2) := by
          have h1 := makeEnds_len d0
          refine ⟨?_, ?_, makePoints_len d0⟩
          · show 3 ≤ (makeSecs d0 (makeEnds d0) (makeEnds d0).length).length; rw [makeSecs_len]; exact h1.1
          · show (makeSecs d0 (makeEnds d0) (makeEnds d0).length).length ≤ 8; rw [makeSecs_len]; exact h1.2
        generalize fullL d0 = L at *
        have HVL := Lib.hid hvL
        obtain ⟨A0, k0, c0, A1, k1, c1, A2, k2, c2, A3, k3, c3, A4, k4, c4, t0, t1, t2, t3, t4, hv, hk0, hk1, hk2, hk3⟩ := hvL.lens
        subst hv
        have HK : Hid (L.nodes.length = k0 ∧ L.secs.length = k1 ∧ L.parts.length = k2 ∧ L.points.length = k3) := ⟨hk0, hk1, hk2, hk3⟩
        clear hvL hk0 hk1 hk2 hk3
        have hb2 := (Below.refl wC.heap.size wC).alloc (Nat.le_refl _) (.cells #[.slice A0 k0 c0, .slice A1 k1 c1, .slice A2 k2 c2, .slice A3 k3 c3, .slice A4 k4 c4, .int .i64 t0, .int .i64 t1, .int .i64 t2, .int .i64 t3, .int .i64 t4] 35)
        have HD := Lib.hid (HC.out.trans (hb2.mono HC.out.size))
        have HV2 := Lib.hid (HVL.out.up hb2)
        have HR2 := Lib.hid (Row.new wC 35 #[.slice A0 k0 c0, .slice A1 k1 c1, .slice A2 k2 c2, .slice A3 k3 c3, .slice A4 k4 c4, .int .i64 t0, .int .i64 t1, .int .i64 t2, .int .i64 t3, .int .i64 t4])
        clear hb2 HC HVL
        go_upto_region 4 with (fail)
        obtain ⟨nL, hnL⟩ : ∃ n, n = wC.heap.size := ⟨_, rfl⟩
        rw [← hnL] at HR2 ⊢
        clear hnL
        generalize wC.alloc (.cells #[.slice A0 k0 c0, .slice A1 k1 c1, .slice A2 k2 c2, .slice A3 k3 c3, .slice A4 k4 c4, .int .i64 t0, .int .i64 t1, .int .i64 t2, .int .i64 t3, .int .i64 t4] 35) = wD at *
        have HP0 : Hid (PSt w g0 nL wD.heap.size #[.slice A0 k0 c0, .slice A1 k1 c1, .slice A2 k2 c2, .slice A3 k3 c3, .slice A4 k4 c4, .int .i64 t0, .int .i64 t1, .int .i64 t2, .int .i64 t3, .int .i64 t4] L wD) := by
          have hDs := HD.out.size; have hgl := HG0.out; have hnl := HR2.out.lt
          exact ⟨by rw [hgl]; exact HD.out, HR2.out, HV2.out, Nat.le_refl _, by omega, by omega⟩
        obtain ⟨DG, hDG⟩ : ∃ n, n = wD.heap.size := ⟨_, rfl⟩
        rw [← hDG] at HP0
        have HT0 : Hid (Rd wD DG (.slice a2 ts.length cap2) (bvals ts) ∧ Rd wD DG (.slice a5 ms.length cap5) (ivals ms)) := ⟨HTS.out.mono (by have := HP0.out.b; have := HG0.out; omega) (fun q hq => HP0.out.bel.cell (p := q) (by have := HG0.out; omega)), HMS.out.mono (by have := HP0.out.b; have := HG0.out; omega) (fun q hq => HP0.out.bel.cell (p := q) (by have := HG0.out; omega))⟩
        clear hDG HD HV2 HR2 HTS HMS
        obtain ⟨i3, hi3, hz30, hz31, hz32⟩ := info_parts Try.info3n
        obtain ⟨X, hX⟩ : ∃ X, X = n1 % k1 := ⟨_, rfl⟩
        obtain ⟨Y, hY⟩ : ∃ Y, Y = n1 / 128 := ⟨_, rfl⟩
        have hk8 : 3 ≤ k1 ∧ k1 ≤ 8 ∧ k3 ≤ 2 := by have h1 := HSL.out; have h2 := HK.out; omega
        have hX8 : X < k1 := by rw [hX]; exact Nat.mod_lt _ (by omega)
        have hY2 : Y < 2 := by omega
        have hk1n : ¬ k1 = 0 := by omega
        have hk1i : ¬ (k1 : Int) = 0 := by omega
        have f1 : ((n1 : Int)).tmod (k1 : Int) = (X : Int) := by rw [hX, Int.tmod_eq_emod_of_nonneg (by omega)]; omega
        have f2 : ((n1 : Int)).tdiv 128 = (Y : Int) := by rw [hY, Int.tdiv_eq_ediv_of_nonneg (by omega)]; omega
        have f1e : (n1 : Int) % (k1 : Int) = (X : Int) := by omega
        have f2e : (n1 : Int) / 128 = (Y : Int) := by omega
        have hw0 : IntKind.i64.wrap (n1 : Int) = (n1 : Int) := IntWalk.i64_in _ (by omega)
        have hw1 : IntKind.i64.wrap (X : Int) = (X : Int) := IntWalk.i64_in _ (by omega)
        have hw2 : IntKind.i64.wrap (Y : Int) = (Y : Int) := IntWalk.i64_in _ (by omega)
        clear hX hY
        have HOK := Lib.hid (HWK.out X (by have := HK.out.2.1; omega) (Y : Int) (by omega) ts)
        have HQV : Hid (PSt w g0 nL DG #[.slice A0 k0 c0, .slice A1 k1 c1, .slice A2 k2 c2, .slice A3 k3 c3, .slice A4 k4 c4, .int .i64 t0, .int .i64 t1, .int .i64 t2, .int .i64 t3, .int .i64 t4] L wD.drew ∧ Rd wD.drew DG (.slice a2 ts.length cap2) (bvals ts) ∧ Rd wD.drew DG (.slice a5 ms.length cap5) (ivals ms)) := ⟨HP0.out.drewN 1, HT0.out.1.mono (Nat.le_refl _) (fun _ _ => rfl), HT0.out.2.mono (Nat.le_refl _) (fun _ _ => rfl)⟩
        refine wp_region_still_tail 11 (by kernel_rfl) (by kernel_rfl) ?_
        change wpStill _ _ wD.drew (fun a' => wpList _ _ _ _ a' wD.drew) _ _
        clear HP0 HT0
        generalize wD.drew = wq at *
        have p0 := HQV.out.1.row.cell 0
        have p1 := HQV.out.1.row.cell 1
        have p2 := HQV.out.1.row.cell 2
        have p3 := HQV.out.1.row.cell 3
        have p4 := HQV.out.1.row.cell 4
        have p5 := HQV.out.1.row.cell 5
        have p6 := HQV.out.1.row.cell 6
        have p7 := HQV.out.1.row.cell 7
        have p8 := HQV.out.1.row.cell 8
        have p9 := HQV.out.1.row.cell 9
        simp only [List.getElem?_toArray, List.getElem?_cons_zero, List.getElem?_cons_succ] at p0 p1 p2 p3 p4 p5 p6 p7 p8 p9
        simp only [List.take_succ_cons, List.take_zero, List.drop_succ_cons, List.drop_zero]
        repeat still_step
        refine wpStill_nil ?_
        have HWC : Hid (Calls Try.prog 17 #[.agg #[.slice A0 k0 c0, .slice A1 k1 c1, .slice A2 k2 c2, .slice A3 k3 c3, .slice A4 k4 c4, .int .i64 t0, .int .i64 t1, .int .i64 t2, .int .i64 t3, .int .i64 t4], .int .i64 (X : Int), .int .i64 (Y : Int), .slice a2 ts.length cap2, .int .i64 12] wq (RetOwn wq.heap.size (walkL L (X : Int) (Y : Int) ts 12) wq)) := refWalk_any wq DG _ L (X : Int) (Y : Int) a2 cap2 ts 12 HQV.out.1.lay HQV.out.1.sz HFT.out HQV.out.2.1 HBY.out (by omega) (by omega) (by omega)
        go_wp2_with fail
        refine HWC.out.mono ?_; rintro e wN ⟨vN, rfl, hoN, hbN⟩
        clear p0 p1 p2 p3 p4 p5 p6 p7 p8 p9
        have hp1 : 1 ≤ (walkL L (X : Int) (Y : Int) ts 12).length := walkGo_pos L ts 12 12 0 [(X : Int)] ((X : Int), (Y : Int)) (by simp)
        have hp12 := walkL_len L (X : Int) (Y : Int) ts 12 (by omega)
        generalize walkL L (X : Int) (Y : Int) ts 12 = p at *
        have hok := HOK.out
        unfold needsOk at hok
        rw [Bool.and_eq_true, Bool.and_eq_true] at hok
        have HPI : Hid ((pathL L p).isSome = decide (1 < p.length)) := by have h := hok.2.2; rw [← pathL_eq] at h; show _ = _; simpa using h
        obtain ⟨Ap, cp, hvp⟩ := own_slice hoN
        subst hvp
        obtain ⟨bp, op, hAp, -, -⟩ := (Rd.of_own hoN).at (i := 0) (u := .int .i64 p[0]) (by simp [ivals, show 0 < p.length by omega])
        subst hAp
        have HN1 : Hid (PSt w g0 nL DG #[.slice A0 k0 c0, .slice A1 k1 c1, .slice A2 k2 c2, .slice A3 k3 c3, .slice A4 k4 c4, .int .i64 t0, .int .i64 t1, .int .i64 t2, .int .i64 t3, .int .i64 t4] L wN ∧ Rd wN DG (.slice a5 ms.length cap5) (ivals ms) ∧ wN.ownsRow 0 3 1 (.slice (some ⟨bp, op, none⟩) p.length cp) p.length (ivals p)) := ⟨HQV.out.1.call hbN, HQV.out.2.2.below hbN HQV.out.1.sz, own_base hoN (Nat.zero_le _)⟩
        clear hoN hbN HQV HWC f1 f2 f1e f2e hw0 hw1 hw2 hok HOK
        have HCP := Lib.hid (Rd.cells (Rd.of_own HN1.out.2.2))
        have hone : ∀ u ∈ ivals p, u.oneCell' = true := by intro u hu; simp [ivals] at hu; obtain ⟨x, _, rfl⟩ := hu; rfl
        have HONE := Lib.hid hone
        have hivl : (ivals p).length = p.length * 1 := by simp [ivals]
        clear hone
        go_wp2_with (at_builtin; refine wpList_append_own_at _ rfl (.const (.slice none 0 0)) (.tmp 50) 45 rfl DG 3 i3 (.int .i64 0) 1 8 Try.underlying45 hi3 hz30 hz31 hz32 rfl (by decide) _ _ _ rfl (World.ownsRow_nil _ _ _ _) ⟨bp, op, none⟩ p.length cp (ivals p) rfl hivl HCP.out HONE.out (by unfold maxLen; omega) (by omega) HN1.out.1.sz ?_)
        intro v7 w7 hown7 hgrow7 _ hat7
        rcases hown7.2 with ⟨_, hz0⟩ | ⟨gq, cq, cur, hvq, hgq, hhq, -⟩
        · omega
        subst hvq
        have hgn : gq = wN.heap.size := by
          rcases hat7 with h | h
          · simp [Value.ownBlock] at h
          · simpa [Value.ownBlock] using h
        have hb7 : Below wN.heap.size wN w7 := ⟨hgrow7.os, hgrow7.tape, hgrow7.output, hgrow7.size, fun k hk => hgrow7.block k hk (by simp [Value.ownBlock])⟩
        have HN7 : Hid (PSt w g0 nL DG #[.slice A0 k0 c0, .slice A1 k1 c1, .slice A2 k2 c2, .slice A3 k3 c3, .slice A4 k4 c4, .int .i64 t0, .int .i64 t1, .int .i64 t2, .int .i64 t3, .int .i64 t4] L w7 ∧ Rd w7 DG (.slice a5 ms.length cap5) (ivals ms) ∧ w7.ownsRow 0 3 1 (.slice (some ⟨bp, op, none⟩) p.length cp) p.length (ivals p)) := ⟨HN1.out.1.call hb7, HN1.out.2.1.below hb7 HN1.out.1.sz, own_below HN1.out.2.2 hb7⟩
        have HQ7 : Hid (w7.ownsRow 0 3 1 (.slice (some ⟨gq, 0, none⟩) p.length cq) p.length (ivals p)) := own_base hown7 (Nat.zero_le _)
        have HH7 := Lib.hid hhq
        have HGQ : Hid (DG ≤ gq ∧ gq ≠ bp) := ⟨hgq, by
          intro e
          have h1 := (HN1.out.2.2.lt bp (by simp [Value.ownBlock])).2
          omega⟩
        clear hown7 hgrow7 hat7 hgq hhq hgn hb7 HN1 HCP HONE hivl
        obtain ⟨I, hI⟩ : ∃ I, I = n3 % p.length := ⟨_, rfl⟩
        obtain ⟨O, hO⟩ : ∃ O, O = n4 % (k1 + 1) := ⟨_, rfl⟩
        have hIl : I < p.length := by rw [hI]; exact Nat.mod_lt _ (by omega)
        have hOl : O < 9 := by have : O < k1 + 1 := by rw [hO]; exact Nat.mod_lt _ (by omega)
                               omega
        have hpn : ¬ p.length = 0 := by omega
        have hpi : ¬ (p.length : Int) = 0 := by omega
        have hkp : ¬ (k1 : Int) + 1 = 0 := by omega
        have g1 : ((n3 : Int)).tmod (p.length : Int) = (I : Int) := by rw [hI, Int.tmod_eq_emod_of_nonneg (by omega)]; omega
        have g1e : (n3 : Int) % (p.length : Int) = (I : Int) := by omega
        have g2e : (n4 : Int) % ((k1 : Int) + 1) = (O : Int) := by
          obtain ⟨K, hK⟩ : ∃ K, K = k1 + 1 := ⟨_, rfl⟩
          rw [← hK] at hO
          have h1 : (n4 : Int) % (K : Int) = (O : Int) := by rw [hO]; omega
          rw [show (k1 : Int) + 1 = (K : Int) by omega]; exact h1
        have g2 : ((n4 : Int)).tmod ((k1 : Int) + 1) = (O : Int) := by rw [Int.tmod_eq_emod_of_nonneg (by omega)]; exact g2e
        have hv0 : IntKind.i64.wrap (n3 : Int) = (n3 : Int) := IntWalk.i64_in _ (by omega)
        have hv1 : IntKind.i64.wrap (n4 : Int) = (n4 : Int) := IntWalk.i64_in _ (by omega)
        have hv2 : IntKind.i64.wrap (I : Int) = (I : Int) := IntWalk.i64_in _ (by omega)
        have hv3 : IntKind.i64.wrap (O : Int) = (O : Int) := IntWalk.i64_in _ (by omega)
        have hv4 : IntKind.i64.wrap ((k1 : Int) + 1) = (k1 : Int) + 1 := IntWalk.i64_in _ (by omega)
        clear hI hO
        have l1 := HN7.out.1.row.cell 1
        simp only [List.getElem?_toArray, List.getElem?_cons_zero, List.getElem?_cons_succ] at l1
        go_upto_region 6 with (fail)
        go_still_tail 14, (by kernel_rfl)
        change wpList _ _ _ _ _ w7.drew
        have HN8 : Hid (PSt w g0 nL DG #[.slice A0 k0 c0, .slice A1 k1 c1, .slice A2 k2 c2, .slice A3 k3 c3, .slice A4 k4 c4, .int .i64 t0, .int .i64 t1, .int .i64 t2, .int .i64 t3, .int .i64 t4] L w7.drew ∧ Rd w7.drew DG (.slice a5 ms.length cap5) (ivals ms) ∧ w7.drew.ownsRow 0 3 1 (.slice (some ⟨bp, op, none⟩) p.length cp) p.length (ivals p)) := ⟨HN7.out.1.drewN 1, HN7.out.2.1.mono (Nat.le_refl _) (fun _ _ => rfl), HN7.out.2.2⟩
        have HQ8 : Hid (w7.drew.ownsRow 0 3 1 (.slice (some ⟨gq, 0, none⟩) p.length cq) p.length (ivals p)) := HQ7.out
        have HH8 : Hid (w7.drew.heap[gq]? = some (.cells cur 3 (0, 0))) := HH7.out
        clear HN7 HQ7 HH7 l1 g1 g1e g2 g2e hv0 hv1 hv2 hv3 hv4
        generalize w7.drew = w8 at *
        have hput := own_put (O : Int) HQ8.out HH8.out hIl
        have HN9 : Hid (PSt w g0 nL DG #[.slice A0 k0 c0, .slice A1 k1 c1, .slice A2 k2 c2, .slice A3 k3 c3, .slice A4 k4 c4, .int .i64 t0, .int .i64 t1, .int .i64 t2, .int .i64 t3, .int .i64 t4] L (w8.setCell ⟨gq, I, none⟩ (.int .i64 (O : Int))) ∧ Rd (w8.setCell ⟨gq, I, none⟩ (.int .i64 (O : Int))) DG (.slice a5 ms.length cap5) (ivals ms) ∧ Rd (w8.setCell ⟨gq, I, none⟩ (.int .i64 (O : Int))) (w8.setCell ⟨gq, I, none⟩ (.int .i64 (O : Int))).heap.size (.slice (some ⟨bp, op, none⟩) p.length cp) (ivals p) ∧ Rd (w8.setCell ⟨gq, I, none⟩ (.int .i64 (O : Int))) (w8.setCell ⟨gq, I, none⟩ (.int .i64 (O : Int))).heap.size (.slice (some ⟨gq, 0, none⟩) p.length cq) (ivals (p.set I (O : Int)))) := by
          have hbs : Below DG w8 (w8.setCell ⟨gq, I, none⟩ (.int .i64 (O : Int))) := (Below.refl DG w8).setCell (p := ⟨gq, I, none⟩) HGQ.out.1 _
          exact ⟨HN8.out.1.set ⟨gq, I, none⟩ HGQ.out.1 _, HN8.out.2.1.below hbs (Nat.le_refl _), Rd.of_own (own_far HN8.out.2.2 (fun e => HGQ.out.2 (by simpa [Value.ownBlock, own_zero HN8.out.2.2] using e.symm)) _), hput.2⟩
        have cc0 := hput.1; have cc1 : w8.frozen? ⟨gq, I, none⟩ = false := Row.frozen (t := 3) (cs := cur) HH8.out I
        clear hput HN8 HQ8 HH8
        go_upto_region 7 with (fail)
        clear cc0 cc1
        generalize w8.setCell ⟨gq, I, none⟩ (.int .i64 (O : Int)) = w9 at *
        have p0 := HN9.out.1.row.cell 0
        have p1 := HN9.out.1.row.cell 1
        have p2 := HN9.out.1.row.cell 2
        have p3 := HN9.out.1.row.cell 3
        have p4 := HN9.out.1.row.cell 4
        have p5 := HN9.out.1.row.cell 5
        have p6 := HN9.out.1.row.cell 6
        have p7 := HN9.out.1.row.cell 7
        have p8 := HN9.out.1.row.cell 8
        have p9 := HN9.out.1.row.cell 9
        simp only [List.getElem?_toArray, List.getElem?_cons_zero, List.getElem?_cons_succ] at p0 p1 p2 p3 p4 p5 p6 p7 p8 p9
        go_wp2_with fail
        refine (new_any w9 _ L HN9.out.1.up HFT.out).mono ?_; rintro e wE ⟨vg, rfl, hg, hbE⟩
        clear p0 p1 p2 p3 p4 p5 p6 p7 p8 p9
        have HNA : Hid (PSt w g0 nL DG #[.slice A0 k0 c0, .slice A1 k1 c1, .slice A2 k2 c2, .slice A3 k3 c3, .slice A4 k4 c4, .int .i64 t0, .int .i64 t1, .int .i64 t2, .int .i64 t3, .int .i64 t4] L wE ∧ Rd wE DG (.slice a5 ms.length cap5) (ivals ms) ∧ Rd wE wE.heap.size (.slice (some ⟨bp, op, none⟩) p.length cp) (ivals p) ∧ Rd wE wE.heap.size (.slice (some ⟨gq, 0, none⟩) p.length cq) (ivals (p.set I (O : Int)))) := ⟨HN9.out.1.call hbE, HN9.out.2.1.below hbE HN9.out.1.sz, HN9.out.2.2.1.up hbE, HN9.out.2.2.2.up hbE⟩
        have HGE := Lib.hid hg
        clear hbE hg HN9
        go_wp2_with fail
        refine (path_any wE wE.heap.size _ L (some ⟨bp, op, none⟩) cp p HGE.out (Nat.le_refl _) HFT.out HNA.out.2.2.1 (by omega)).mono ?_; rintro e wF ⟨vF, rfl, hoF, hbF⟩
        rw [HPI.out]
        obtain ⟨Af, cf, hvf⟩ := own_slice hoF
        subst hvf
        have HNB : Hid (PSt w g0 nL DG #[.slice A0 k0 c0, .slice A1 k1 c1, .slice A2 k2 c2, .slice A3 k3 c3, .slice A4 k4 c4, .int .i64 t0, .int .i64 t1, .int .i64 t2, .int .i64 t3, .int .i64 t4] L wF ∧ Rd wF DG (.slice a5 ms.length cap5) (ivals ms) ∧ Rd wF wF.heap.size (.slice (some ⟨bp, op, none⟩) p.length cp) (ivals p) ∧ Rd wF wF.heap.size (.slice (some ⟨gq, 0, none⟩) p.length cq) (ivals (p.set I (O : Int)))) := ⟨HNA.out.1.call hbF, HNA.out.2.1.below hbF HNA.out.1.sz, HNA.out.2.2.1.up hbF, HNA.out.2.2.2.up hbF⟩
        clear hoF hbF HNA HGE
        generalize ((pathL L p).getD []).length = fl at *
        have p0 := HNB.out.1.row.cell 0
        have p1 := HNB.out.1.row.cell 1
        have p2 := HNB.out.1.row.cell 2
        have p3 := HNB.out.1.row.cell 3
        have p4 := HNB.out.1.row.cell 4
        have p5 := HNB.out.1.row.cell 5
        have p6 := HNB.out.1.row.cell 6
        have p7 := HNB.out.1.row.cell 7
        have p8 := HNB.out.1.row.cell 8
        have p9 := HNB.out.1.row.cell 9
        simp only [List.getElem?_toArray, List.getElem?_cons_zero, List.getElem?_cons_succ] at p0 p1 p2 p3 p4 p5 p6 p7 p8 p9
        go_wp2_with fail
        refine (paths_any wF DG _ L (some ⟨bp, op, none⟩) cp p HNB.out.1.lay HNB.out.1.sz HFT.out HNB.out.2.2.1 (by omega) (HEQ.out _)).mono ?_; rintro e wG ⟨rfl, hb9⟩
        clear p0 p1 p2 p3 p4 p5 p6 p7 p8 p9
        have HNC : Hid (PSt w g0 nL DG #[.slice A0 k0 c0, .slice A1 k1 c1, .slice A2 k2 c2, .slice A3 k3 c3, .slice A4 k4 c4, .int .i64 t0, .int .i64 t1, .int .i64 t2, .int .i64 t3, .int .i64 t4] L wG ∧ Rd wG DG (.slice a5 ms.length cap5) (ivals ms) ∧ Rd wG wG.heap.size (.slice (some ⟨gq, 0, none⟩) p.length cq) (ivals (p.set I (O : Int)))) := ⟨HNB.out.1.call hb9, HNB.out.2.1.below hb9 HNB.out.1.sz, HNB.out.2.2.2.up hb9⟩
        clear hb9 HNB
        have HPQ : Hid (∀ (W : World), PSt w g0 nL DG #[.slice A0 k0 c0, .slice A1 k1 c1, .slice A2 k2 c2, .slice A3 k3 c3, .slice A4 k4 c4, .int .i64 t0, .int .i64 t1, .int .i64 t2, .int .i64 t3, .int .i64 t4] L W → Rd W W.heap.size (.slice (some ⟨gq, 0, none⟩) p.length cq) (ivals (p.set I (O : Int))) → Calls Try.prog 19 #[.agg #[.slice A0 k0 c0, .slice A1 k1 c1, .slice A2 k2 c2, .slice A3 k3 c3, .slice A4 k4 c4, .int .i64 t0, .int .i64 t1, .int .i64 t2, .int .i64 t3, .int .i64 t4], .slice (some ⟨gq, 0, none⟩) p.length cq] W fun e w' => e = .returned (.bool true) ∧ Below W.heap.size W w') := fun W hW hR => by
          have e : p.length = (p.set I (O : Int)).length := by simp
          rw [e] at hR ⊢
          exact paths_any W DG _ L (some ⟨gq, 0, none⟩) cq (p.set I (O : Int)) hW.lay hW.sz HFT.out hR (by simp; omega) (HEQ.out _)
        have p0 := HNC.out.1.row.cell 0
        have p1 := HNC.out.1.row.cell 1
        have p2 := HNC.out.1.row.cell 2
        have p3 := HNC.out.1.row.cell 3
        have p4 := HNC.out.1.row.cell 4
        have p5 := HNC.out.1.row.cell 5
        have p6 := HNC.out.1.row.cell 6
        have p7 := HNC.out.1.row.cell 7
        have p8 := HNC.out.1.row.cell 8
        have p9 := HNC.out.1.row.cell 9
        simp only [List.getElem?_toArray, List.getElem?_cons_zero, List.getElem?_cons_succ] at p0 p1 p2 p3 p4 p5 p6 p7 p8 p9
        go_wp2_with fail
        refine (HPQ.out wG HNC.out.1 HNC.out.2.2).mono ?_; rintro e wH ⟨rfl, hb9⟩
        clear p0 p1 p2 p3 p4 p5 p6 p7 p8 p9
        have HND : Hid (PSt w g0 nL DG #[.slice A0 k0 c0, .slice A1 k1 c1, .slice A2 k2 c2, .slice A3 k3 c3, .slice A4 k4 c4, .int .i64 t0, .int .i64 t1, .int .i64 t2, .int .i64 t3, .int .i64 t4] L wH ∧ Rd wH DG (.slice a5 ms.length cap5) (ivals ms)) := ⟨HNC.out.1.call hb9, HNC.out.2.1.below hb9 HNC.out.1.sz⟩
        clear hb9 HNC HPQ
        have p0 := HND.out.1.row.cell 0
        have p1 := HND.out.1.row.cell 1
        have p2 := HND.out.1.row.cell 2
        have p3 := HND.out.1.row.cell 3
        have p4 := HND.out.1.row.cell 4
        have p5 := HND.out.1.row.cell 5
        have p6 := HND.out.1.row.cell 6
        have p7 := HND.out.1.row.cell 7
        have p8 := HND.out.1.row.cell 8
        have p9 := HND.out.1.row.cell 9
        simp only [List.getElem?_toArray, List.getElem?_cons_zero, List.getElem?_cons_succ] at p0 p1 p2 p3 p4 p5 p6 p7 p8 p9
        go_wp2_with fail
        refine (paths_any wH DG _ L a5 cap5 ms HND.out.1.lay HND.out.1.sz HFT.out (HND.out.2.mono HND.out.1.sz (fun _ _ => rfl)) (by omega) (HEQ.out _)).mono ?_; rintro e wI ⟨rfl, hb9⟩
        clear p0 p1 p2 p3 p4 p5 p6 p7 p8 p9
        have HNZ := Lib.hid (HND.out.1.call hb9)
        clear hb9 HND
        by_cases hlp : 1 < p.length
        · have hli : (1 : Int) < (p.length : Int) := by omega
          have hdb : decide (1 < p.length) = true := decide_eq_true hlp
          rw [hdb]
          go_wp2_with fail
          go_ret
          exact ⟨rfl, by rw [← HG0.out]; exact HNZ.out.bel⟩
        · have hli : ¬ (1 : Int) < (p.length : Int) := by omega
          have hdb : decide (1 < p.length) = false := decide_eq_false hlp
          have hdi : decide ((1 : Int) < (p.length : Int)) = false := decide_eq_false hli
          rw [hdb]
          go_wp2_with fail
          go_ret
          exact ⟨rfl, by rw [← HG0.out]; exact HNZ.out.bel⟩
      · have h10i : (10 : Int) < (ms.length : Int) := by omega
        have h10n : 10 < ms.length := by omega
        go_enter Try.func5, Try.ntmps5
        go_upto_region 1 with (fail)
        obtain ⟨g0, hg0⟩ : ∃ n, n = w.heap.size := ⟨_, rfl⟩
        rw [← hg0] at HRW ⊢
        have HG0 : Hid (g0 = w.heap.size) := hg0
        generalize w.alloc (.cells #[.int .u8 (d0.form : Int), .int .u8 (d0.len : Int), .int .u8 (d0.speed : Int), .int .u16 (d0.mute : Int), .int .u16 (d0.wait : Int), .int .u8 (d0.cancel : Int), .int .u8 (d0.stay : Int), .int .u8 (d0.join : Int), .slice Ar kr cr] 25) = W0 at *
        clear hg0
        go_wp2_with fail
        refine (joins_any _).mono ?_; rintro e wA ⟨rfl, hbA⟩
        have HA := Lib.hid (HB0.out.trans (hbA.mono HB0.out.size))
        have HRA := Lib.hid (Below.row hbA HRW.out HRW.out.lt)
        have HBA := Lib.hid (HBR.out.up hbA)
        clear hbA HB0 HRW HBR
        have f0 := HRA.out.cell 0
        have f1 := HRA.out.cell 1
        have f2 := HRA.out.cell 2
        have f3 := HRA.out.cell 3
        have f4 := HRA.out.cell 4
        have f5 := HRA.out.cell 5
        have f6 := HRA.out.cell 6
        have f7 := HRA.out.cell 7
        have f8 := HRA.out.cell 8
        simp only [List.getElem?_toArray, List.getElem?_cons_zero, List.getElem?_cons_succ] at f0 f1 f2 f3 f4 f5 f6 f7 f8
        go_wp2_with fail
        refine (small_any wA d0 (.slice Ar kr cr) HBA.out HL.out.1 HL.out.2).mono ?_; rintro e wB ⟨rfl, hbB⟩
        clear f0 f1 f2 f3 f4 f5 f6 f7 f8
        rw [hs]
        have HB := Lib.hid (HA.out.trans (hbB.mono HA.out.size))
        have HRB := Lib.hid (Below.row hbB HRA.out HRA.out.lt)
        have HBB := Lib.hid (HBA.out.up hbB)
        clear hbB HA HRA HBA
        go_wp2_with fail
        refine (joins_any _).mono ?_; rintro e wZ ⟨rfl, hbZ⟩
        have HZ := Lib.hid (HB.out.trans (hbZ.mono HB.out.size))
        clear hbZ
        go_wp2_with fail
        go_ret
        exact ⟨rfl, by rw [← HG0.out] at HZ ⊢; exact HZ.out⟩
    · have h20i : (20 : Int) < (ts.length : Int) := by omega
      have h20n : 20 < ts.length := by omega
      go_enter Try.func5, Try.ntmps5
      go_upto_region 1 with (fail)
      obtain ⟨g0, hg0⟩ : ∃ n, n = w.heap.size := ⟨_, rfl⟩
      rw [← hg0] at HRW ⊢
      have HG0 : Hid (g0 = w.heap.size) := hg0
      generalize w.alloc (.cells #[.int .u8 (d0.form : Int), .int .u8 (d0.len : Int), .int .u8 (d0.speed : Int), .int .u16 (d0.mute : Int), .int .u16 (d0.wait : Int), .int .u8 (d0.cancel : Int), .int .u8 (d0.stay : Int), .int .u8 (d0.join : Int), .slice Ar kr cr] 25) = W0 at *
      clear hg0
      go_wp2_with fail
      refine (joins_any _).mono ?_; rintro e wA ⟨rfl, hbA⟩
      have HA := Lib.hid (HB0.out.trans (hbA.mono HB0.out.size))
      have HRA := Lib.hid (Below.row hbA HRW.out HRW.out.lt)
      have HBA := Lib.hid (HBR.out.up hbA)
      clear hbA HB0 HRW HBR
      have f0 := HRA.out.cell 0
      have f1 := HRA.out.cell 1
      have f2 := HRA.out.cell 2
      have f3 := HRA.out.cell 3
      have f4 := HRA.out.cell 4
      have f5 := HRA.out.cell 5
      have f6 := HRA.out.cell 6
      have f7 := HRA.out.cell 7
      have f8 := HRA.out.cell 8
      simp only [List.getElem?_toArray, List.getElem?_cons_zero, List.getElem?_cons_succ] at f0 f1 f2 f3 f4 f5 f6 f7 f8
      go_wp2_with fail
      refine (small_any wA d0 (.slice Ar kr cr) HBA.out HL.out.1 HL.out.2).mono ?_; rintro e wB ⟨rfl, hbB⟩
      clear f0 f1 f2 f3 f4 f5 f6 f7 f8
      rw [hs]
      have HB := Lib.hid (HA.out.trans (hbB.mono HA.out.size))
      have HRB := Lib.hid (Below.row hbB HRA.out HRA.out.lt)
      have HBB := Lib.hid (HBA.out.up hbB)
      clear hbB HA HRA HBA
      go_wp2_with fail
      refine (joins_any _).mono ?_; rintro e wZ ⟨rfl, hbZ⟩
      have HZ := Lib.hid (HB.out.trans (hbZ.mono HB.out.size))
      clear hbZ
      go_wp2_with fail
      go_ret
      exact ⟨rfl, by rw [← HG0.out] at HZ ⊢; exact HZ.out⟩

theorem lifted (os : Os) (started : os.Started) (H : Type) (enc : TypeId × Value → H) :
    ReturnsInHanded {} Try.checked os 5 .any (Rows.graphPathsSpec.pre6 enc Try.prog Try.f5 Rows.graphPathsRow.domain false) (Rows.graphPathsSpec.post enc Try.prog Try.f5 false true false false) := by
  refine returnsInHanded_of_change (C := Try.checked) own started (by kernel_rfl) Try.func5
    (ChangeSpec.witness6 (enc := enc) (C := Try.checked) false ⟨#[], #[.agg #[.int .u8 0, .int .u8 0, .int .u8 0, .int .u16 0, .int .u16 0, .int .u8 0, .int .u8 0, .int .u8 0, .slice none 0 0], .int .u8 0, .slice none 0 0, .int .u8 0, .int .u8 0, .slice none 0 0], []⟩ 8 (by kernel_rfl) (by kernel_rfl) (by kernel_rfl) (by kernel_rfl)) ?_
  intro W base args ds gs before hval0 hW hcnd _
  have hval : ∀ (j : Nat) t v, Try.f5.params[j]? = some t → args[j]? = some v → Value.okWide Try.prog W .any base t v := hval0
  have hW' := hW
  obtain ⟨p, q, hA0, hV, rfl, hfz, hnd⟩ := hW
  have hA : DataW.TrodAll enc Try.prog W 0 (fun _ => true) true Try.f5.params.toList args.toList ds p := hA0
  rw [Try.params5] at hA hval
  obtain ⟨v0, vs0, d0, ds0, p0, q0, hargs, rfl, rfl, h0, r0⟩ := trodAll_cons hA
  obtain ⟨v1, vs1, d1, ds1, p1, q1, rfl, rfl, rfl, h1, r1⟩ := trodAll_cons r0
  obtain ⟨v2, vs2, d2, ds2, p2, q2, rfl, rfl, rfl, h2, r2⟩ := trodAll_cons r1
  obtain ⟨v3, vs3, d3, ds3, p3, q3, rfl, rfl, rfl, h3, r3⟩ := trodAll_cons r2
  obtain ⟨v4, vs4, d4, ds4, p4, q4, rfl, rfl, rfl, h4, r4⟩ := trodAll_cons r3
  obtain ⟨v5, vs5, d5, ds5, p5, q5, rfl, rfl, rfl, h5, r5⟩ := trodAll_cons r4
  obtain ⟨rfl, rfl, rfl⟩ := trodAll_nil r5
  obtain rfl : args = #[v0, v1, v2, v3, v4, v5] := by cases args; simp_all
  obtain ⟨rfl, rfl⟩ := trodVars_none hV
  have k0 := h0
  have lt0 : ∀ x ∈ p0, x.block < W.heap.size := by obtain ⟨m, hm⟩ := k0; exact DataW.trod_lt m _ _ _ hm
  obtain ⟨e0, vr0, hv0, w0⟩ := draft_of_trod (hval 0 25 v0 rfl rfl) h0
  subst hv0
  obtain ⟨a1, rfl, rfl, rfl, w1⟩ := open_int Try.underlying5 (hval 1 5 v1 rfl rfl) h1
  obtain ⟨a2, len2, cap2, rfl⟩ := okWide_slice Try.underlying47 (hval 2 47 v2 rfl rfl)
  have k2 := h2
  have lt2 : ∀ x ∈ p2, x.block < W.heap.size := by obtain ⟨m, hm⟩ := k2; exact DataW.trod_lt m _ _ _ hm
  obtain ⟨z2, w2⟩ : ∃ zs, IsRow .u8 W a2 len2 cap2 zs := by
    obtain ⟨fuel, hf⟩ := h2
    rcases open_ints Try.underlying47 Try.underlying5 (by kernel_rfl) hf with ⟨hcs, _⟩ | ⟨x, l, c, zs, hcs, _, hl, hm, hz, _, hcell, hwz⟩
    · simp [Value.cells] at hcs
      obtain ⟨rfl, rfl, rfl⟩ := hcs
      exact ⟨[], .inl ⟨rfl, rfl, rfl, rfl⟩⟩
    · simp [Value.cells] at hcs
      obtain ⟨rfl, rfl, rfl⟩ := hcs
      exact ⟨zs, .inr ⟨_, rfl, hl, hm, by simpa using hz, hcell, hwz⟩⟩
  obtain ⟨a3, rfl, rfl, rfl, w3⟩ := open_int Try.underlying5 (hval 3 5 v3 rfl rfl) h3
  obtain ⟨a4, rfl, rfl, rfl, w4⟩ := open_int Try.underlying5 (hval 4 5 v4 rfl rfl) h4
  obtain ⟨a5, len5, cap5, rfl⟩ := okWide_slice Try.underlying45 (hval 5 45 v5 rfl rfl)
  have k5 := h5
  have lt5 : ∀ x ∈ p5, x.block < W.heap.size := by obtain ⟨m, hm⟩ := k5; exact DataW.trod_lt m _ _ _ hm
  obtain ⟨z5, w5⟩ : ∃ zs, IsRow .i64 W a5 len5 cap5 zs := by
    obtain ⟨fuel, hf⟩ := h5
    rcases open_ints Try.underlying45 Try.underlying3 (by kernel_rfl) hf with ⟨hcs, _⟩ | ⟨x, l, c, zs, hcs, _, hl, hm, hz, _, hcell, hwz⟩
    · simp [Value.cells] at hcs
      obtain ⟨rfl, rfl, rfl⟩ := hcs
      exact ⟨[], .inl ⟨rfl, rfl, rfl, rfl⟩⟩
    · simp [Value.cells] at hcs
      obtain ⟨rfl, rfl, rfl⟩ := hcs
      exact ⟨zs, .inr ⟨_, rfl, hl, hm, by simpa using hz, hcell, hwz⟩⟩
  clear hA0 hval0
  refine (walk e0 vr0 a1 a2 len2 cap2 z2 a3 a4 a5 len5 cap5 z5 W w0 w1 w2 w3 w4 w5).mono fun e W' ⟨he, bel⟩ => ?_
  subst he
  exact ⟨_, rfl, _, _, _, [], _, [], hW', trodAll_mk1 (shut_bool Try.underlying4 _), (trodAll_cons_mk (Below.trod laidOut (by kernel_rfl) (of_decide_eq_true (by kernel_rfl)) k0 bel lt0) (trodAll_cons_mk (shut_int Try.underlying5 w1) (trodAll_cons_mk (Below.trod laidOut (by kernel_rfl) (of_decide_eq_true (by kernel_rfl)) k2 bel lt2) (trodAll_cons_mk (shut_int Try.underlying5 w3) (trodAll_cons_mk (shut_int Try.underlying5 w4) (trodAll_cons_mk (Below.trod laidOut (by kernel_rfl) (of_decide_eq_true (by kernel_rfl)) k5 bel lt5) trodAll_mk0)))))), rfl, bel.frame _, fun h => by cases h⟩

theorem over : Rows.graphPathsRow.holds Try.pinned (OpenSpec.ofChange Rows.graphPathsSpec) :=
  OpenClaim.holds_of_wide 5 Try.f5 rfl rfl rfl rfl rfl rfl rfl ⟨rfl, rfl, rfl, rfl, rfl⟩ rfl rfl rfl rfl rfl (by kernel_rfl) Try.func5 (by kernel_rfl)
    (of_decide_eq_true (by kernel_rfl)) (by unfold Func.isWrapper; first | (rw [if_pos (by decide +kernel)]; kernel_rfl) | (rw [if_neg (by decide +kernel)]; exact ⟨rfl, rfl⟩))
    (fun os started H enc _ => lifted os started H enc)

theorem proved : Rows.GraphPathsSaid := over
#print axioms proved
end Go.Proofs.Ytpipkbdkkbcooaa.graphPaths
