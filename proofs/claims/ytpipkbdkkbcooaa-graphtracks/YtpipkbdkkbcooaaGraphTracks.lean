/-
  PROVED: for every input the law GraphTracks returns true and leaves its arguments as they were: of the track of a draft all that a graph tells is the document's. No condition.
-/
import Derived.Test.YtpipkbdkkbcooaaRows
import Derived.Test.YtpipkbdkkbcooaaLike
import Derived.WalkKit
import Derived.ProofKit
import Derived.OpenShut
import Derived.ShutString
import Derived.ChangeOld
import Derived.Below
import Derived.Deep.Grids
namespace Go.Proofs.Ytpipkbdkkbcooaa.graphTracks
open Go.ChangeShapes Go.WideShapes Go.ChangeAt Go.RowKit
open Go.ChangeMaps (open_string shut_string)
set_option linter.unusedVariables false
set_option maxRecDepth 100000

theorem bools_at {w : World} {x : Addr} {B : Nat → Bool} {cap : Nat} (hc : ∀ i, i < cap → w.cell? (x.add i) = some (.bool (B i))) (hp : 0 < cap) : ∃ b o, x = ⟨b, o, none⟩ ∧ ∀ i, i < cap → w.cell? ⟨b, o + i, none⟩ = some (.bool (B i)) := by
  obtain ⟨b, o, e⟩ := x
  cases e with
  | none => exact ⟨b, o, rfl, fun i hi => by have := hc i hi; rwa [add_at] at this⟩
  | some q =>
    have := hc 0 hp
    simp [Addr.add, World.cell?] at this
    split at this <;> cases this
theorem bools_arg {w : World} {x : Addr} {B : Nat → Bool} {len cap : Nat} (hl : len ≤ cap) (hc : ∀ i, i < cap → w.cell? (x.add i) = some (.bool (B i))) :
    ∃ zs : List Bool, zs.length = len ∧ Rd w w.heap.size (.slice (some x) len cap) (cvals zs) := by
  have hvl : (cvals ((List.range len).map B)).length = len := by simp [cvals]
  refine ⟨(List.range len).map B, by simp, ⟨some x, cap, by rw [hvl], ⟨(fun h => by cases h), by rw [hvl]; exact hl⟩, fun hp => ?_⟩⟩
  rw [hvl] at hp
  obtain ⟨b, o, rfl, hc'⟩ := bools_at hc (by omega)
  refine ⟨b, o, rfl, cell_lt (hc' 0 (by omega)), fun j u hu => ?_⟩
  have hj : j < len := by have := (List.getElem?_eq_some_iff.1 hu).1; rw [hvl] at this; exact this
  rw [hc' j (by omega), ← hu]
  simp [cvals, hj]

theorem own : ownKnob Try.prog.godebug = none := by kernel_rfl
theorem laidOut : laidOutB Try.prog = true := by kernel_rfl

set_option maxHeartbeats 8000000 in
theorem walk (d0 : Dr) (vr0 : Value) (a1 : Option Addr) (len1 cap1 : Nat) (z1 : List Bool) (w : World) (w0 : DrOk d0 ∧ BRows w w.heap.size vr0 d0.routes ∧ d0.routes.length ≤ 9223372036854775807 ∧ ∀ r ∈ d0.routes, r.length ≤ 9223372036854775807) (w1 : z1.length = len1 ∧ Rd w w.heap.size (.slice a1 len1 cap1) (cvals z1)) :
    Calls Try.prog 3 #[drV d0 vr0, .slice a1 len1 cap1] w fun e w' => e = .returned (.bool true) ∧ Below w.heap.size w w' := by
  obtain ⟨hrl1, hrt⟩ := w1
  subst hrl1
  obtain ⟨rt, hrt2⟩ : ∃ x, x = z1 := ⟨_, rfl⟩
  subst hrt2
  have HRT := Lib.hid hrt
  clear hrt
  obtain ⟨hd, hbr, hl, hrl⟩ := w0
  obtain ⟨Ar, kr, cr, hvr⟩ : ∃ A k c, vr0 = .slice A k c := by obtain ⟨vs, ⟨A, c, e, _⟩, _⟩ := hbr; exact ⟨A, _, c, e⟩
  subst hvr
  have HDK := Lib.hid hd
  have HL : Hid (d0.routes.length ≤ 9223372036854775807 ∧ ∀ r ∈ d0.routes, r.length ≤ 9223372036854775807) := ⟨hl, hrl⟩
  clear hd hl hrl
  have hb0 := (Below.refl w.heap.size w).alloc (Nat.le_refl _) (.cells #[.int .u8 (d0.form : Int), .int .u8 (d0.len : Int), .int .u8 (d0.speed : Int), .int .u16 (d0.mute : Int), .int .u16 (d0.wait : Int), .int .u8 (d0.cancel : Int), .int .u8 (d0.stay : Int), .int .u8 (d0.join : Int), .slice Ar kr cr] 25)
  have HB0 := Lib.hid hb0
  have HBR := Lib.hid (hbr.up hb0)
  have HRW := Lib.hid (Row.new w 25 #[.int .u8 (d0.form : Int), .int .u8 (d0.len : Int), .int .u8 (d0.speed : Int), .int .u16 (d0.mute : Int), .int .u16 (d0.wait : Int), .int .u8 (d0.cancel : Int), .int .u8 (d0.stay : Int), .int .u8 (d0.join : Int), .slice Ar kr cr])
  clear hb0 hbr
  unfold drV
  cases hs : small d0 with
  | false =>
    go_enter Try.func3, Try.ntmps3
    go_upto_region 1 with (fail)
    obtain ⟨g0, hg0⟩ : ∃ n, n = w.heap.size := ⟨_, rfl⟩
    rw [← hg0] at HRW ⊢
    have HG0 : Hid (g0 = w.heap.size) := hg0
    generalize w.alloc (.cells #[.int .u8 (d0.form : Int), .int .u8 (d0.len : Int), .int .u8 (d0.speed : Int), .int .u16 (d0.mute : Int), .int .u16 (d0.wait : Int), .int .u8 (d0.cancel : Int), .int .u8 (d0.stay : Int), .int .u8 (d0.join : Int), .slice Ar kr cr] 25) = W0 at *
    clear hg0
    go_wp2_with fail
    refine (joins_any _).mono ?_; rintro e wA ⟨rfl, hbA⟩
    have HA := Lib.hid (HB0.out.trans (hbA.mono HB0.out.size))
    have HRA := Lib.hid (Below.row hbA HRW.out HRW.out.lt)
    have HBA := Lib.hid (HBR.out.up hbA)
    clear hbA HB0 HRW HBR
    have f0 := HRA.out.cell 0
    have f1 := HRA.out.cell 1
    have f2 := HRA.out.cell 2
    have f3 := HRA.out.cell 3
    have f4 := HRA.out.cell 4
    have f5 := HRA.out.cell 5
    have f6 := HRA.out.cell 6
    have f7 := HRA.out.cell 7
    have f8 := HRA.out.cell 8
    simp only [List.getElem?_toArray, List.getElem?_cons_zero, List.getElem?_cons_succ] at f0 f1 f2 f3 f4 f5 f6 f7 f8
    go_wp2_with fail
    refine (small_any wA d0 (.slice Ar kr cr) HBA.out HL.out.1 HL.out.2).mono ?_; rintro e wB ⟨rfl, hbB⟩
    clear f0 f1 f2 f3 f4 f5 f6 f7 f8
    rw [hs]
    have HB := Lib.hid (HA.out.trans (hbB.mono HA.out.size))
    have HRB := Lib.hid (Below.row hbB HRA.out HRA.out.lt)
    have HBB := Lib.hid (HBA.out.up hbB)
    clear hbB HA HRA HBA
    go_wp2_with fail
    refine (joins_any _).mono ?_; rintro e wZ ⟨rfl, hbZ⟩
    have HZ := Lib.hid (HB.out.trans (hbZ.mono HB.out.size))
    clear hbZ
    go_wp2_with fail
    go_ret
    exact ⟨rfl, by rw [← HG0.out] at HZ ⊢; exact HZ.out⟩
  | true =>
    have HS := Lib.hid hs
    by_cases h20 : rt.length ≤ 20
    · have h20i : ¬ (20 : Int) < (rt.length : Int) := by omega
      have h20n : ¬ 20 < rt.length := by omega
      go_enter Try.func3, Try.ntmps3
      go_upto_region 1 with (fail)
      obtain ⟨g0, hg0⟩ : ∃ n, n = w.heap.size := ⟨_, rfl⟩
      rw [← hg0] at HRW ⊢
      have HG0 : Hid (g0 = w.heap.size) := hg0
      generalize w.alloc (.cells #[.int .u8 (d0.form : Int), .int .u8 (d0.len : Int), .int .u8 (d0.speed : Int), .int .u16 (d0.mute : Int), .int .u16 (d0.wait : Int), .int .u8 (d0.cancel : Int), .int .u8 (d0.stay : Int), .int .u8 (d0.join : Int), .slice Ar kr cr] 25) = W0 at *
      clear hg0
      go_wp2_with fail
      refine (joins_any _).mono ?_; rintro e wA ⟨rfl, hbA⟩
      have HA := Lib.hid (HB0.out.trans (hbA.mono HB0.out.size))
      have HRA := Lib.hid (Below.row hbA HRW.out HRW.out.lt)
      have HBA := Lib.hid (HBR.out.up hbA)
      clear hbA HB0 HRW HBR
      have f0 := HRA.out.cell 0
      have f1 := HRA.out.cell 1
      have f2 := HRA.out.cell 2
      have f3 := HRA.out.cell 3
      have f4 := HRA.out.cell 4
      have f5 := HRA.out.cell 5
      have f6 := HRA.out.cell 6
      have f7 := HRA.out.cell 7
      have f8 := HRA.out.cell 8
      simp only [List.getElem?_toArray, List.getElem?_cons_zero, List.getElem?_cons_succ] at f0 f1 f2 f3 f4 f5 f6 f7 f8
      go_wp2_with fail
      refine (small_any wA d0 (.slice Ar kr cr) HBA.out HL.out.1 HL.out.2).mono ?_; rintro e wB ⟨rfl, hbB⟩
      clear f0 f1 f2 f3 f4 f5 f6 f7 f8
      rw [hs]
      have HB := Lib.hid (HA.out.trans (hbB.mono HA.out.size))
      have HRB := Lib.hid (Below.row hbB HRA.out HRA.out.lt)
      have HBB := Lib.hid (HBA.out.up hbB)
      clear hbB HA HRA HBA
      have f0 := HRB.out.cell 0
      have f1 := HRB.out.cell 1
      have f2 := HRB.out.cell 2
      have f3 := HRB.out.cell 3
      have f4 := HRB.out.cell 4
      have f5 := HRB.out.cell 5
      have f6 := HRB.out.cell 6
      have f7 := HRB.out.cell 7
      have f8 := HRB.out.cell 8
      simp only [List.getElem?_toArray, List.getElem?_cons_zero, List.getElem?_cons_succ] at f0 f1 f2 f3 f4 f5 f6 f7 f8
      go_wp2_with fail
      refine (full_any wB d0 (.slice Ar kr cr) HDK.out HBB.out hs).mono ?_; rintro e wC ⟨vL, rfl, hvL, hbL⟩
      clear f0 f1 f2 f3 f4 f5 f6 f7 f8
      have HC := Lib.hid (HB.out.trans (hbL.mono HB.out.size))
      have HRC : Hid (Rd wC wC.heap.size (.slice a1 rt.length cap1) (cvals rt)) := HRT.out.mono HC.out.size (fun q hq => HC.out.cell (p := q) hq)
      have HVL := Lib.hid hvL
      have HFT : Hid (Fits (fullL d0)) := fullL_fits d0
      clear hbL hvL HB HRB HBB
      generalize fullL d0 = L at *
      go_wp2_with fail
      refine (like_any wC vL L a1 cap1 rt HVL.out HFT.out HRC.out).mono ?_; rintro e wD ⟨rfl, hbD⟩
      have HD := Lib.hid (HC.out.trans (hbD.mono HC.out.size))
      clear hbD
      go_wp2_with fail
      go_ret
      exact ⟨rfl, by rw [← HG0.out] at HD ⊢; exact HD.out⟩
    · have h20i : (20 : Int) < (rt.length : Int) := by omega
      have h20n : 20 < rt.length := by omega
      go_enter Try.func3, Try.ntmps3
      go_upto_region 1 with (fail)
      obtain ⟨g0, hg0⟩ : ∃ n, n = w.heap.size := ⟨_, rfl⟩
      rw [← hg0] at HRW ⊢
      have HG0 : Hid (g0 = w.heap.size) := hg0
      generalize w.alloc (.cells #[.int .u8 (d0.form : Int), .int .u8 (d0.len : Int), .int .u8 (d0.speed : Int), .int .u16 (d0.mute : Int), .int .u16 (d0.wait : Int), .int .u8 (d0.cancel : Int), .int .u8 (d0.stay : Int), .int .u8 (d0.join : Int), .slice Ar kr cr] 25) = W0 at *
      clear hg0
      go_wp2_with fail
      refine (joins_any _).mono ?_; rintro e wA ⟨rfl, hbA⟩
      have HA := Lib.hid (HB0.out.trans (hbA.mono HB0.out.size))
      have HRA := Lib.hid (Below.row hbA HRW.out HRW.out.lt)
      have HBA := Lib.hid (HBR.out.up hbA)
      clear hbA HB0 HRW HBR
      have f0 := HRA.out.cell 0
      have f1 := HRA.out.cell 1
      have f2 := HRA.out.cell 2
      have f3 := HRA.out.cell 3
      have f4 := HRA.out.cell 4
      have f5 := HRA.out.cell 5
      have f6 := HRA.out.cell 6
      have f7 := HRA.out.cell 7
      have f8 := HRA.out.cell 8
      simp only [List.getElem?_toArray, List.getElem?_cons_zero, List.getElem?_cons_succ] at f0 f1 f2 f3 f4 f5 f6 f7 f8
      go_wp2_with fail
      refine (small_any wA d0 (.slice Ar kr cr) HBA.out HL.out.1 HL.out.2).mono ?_; rintro e wB ⟨rfl, hbB⟩
      clear f0 f1 f2 f3 f4 f5 f6 f7 f8
      rw [hs]
      have HB := Lib.hid (HA.out.trans (hbB.mono HA.out.size))
      have HRB := Lib.hid (Below.row hbB HRA.out HRA.out.lt)
      have HBB := Lib.hid (HBA.out.up hbB)
      clear hbB HA HRA HBA
      go_wp2_with fail
      refine (joins_any _).mono ?_; rintro e wZ ⟨rfl, hbZ⟩
      have HZ := Lib.hid (HB.out.trans (hbZ.mono HB.out.size))
      clear hbZ
      go_wp2_with fail
      go_ret
      exact ⟨rfl, by rw [← HG0.out] at HZ ⊢; exact HZ.out⟩

theorem lifted (os : Os) (started : os.Started) (H : Type) (enc : TypeId × Value → H) :
    ReturnsInHanded {} Try.checked os 3 .any (Rows.graphTracksSpec.pre6 enc Try.prog Try.f3 Rows.graphTracksRow.domain false) (Rows.graphTracksSpec.post enc Try.prog Try.f3 false true false false) := by
  refine returnsInHanded_of_change (C := Try.checked) own started (by kernel_rfl) Try.func3
    (ChangeSpec.witness6 (enc := enc) (C := Try.checked) false ⟨#[], #[.agg #[.int .u8 0, .int .u8 0, .int .u8 0, .int .u16 0, .int .u16 0, .int .u8 0, .int .u8 0, .int .u8 0, .slice none 0 0], .slice none 0 0], []⟩ 8 (by kernel_rfl) (by kernel_rfl) (by kernel_rfl) (by kernel_rfl)) ?_
  intro W base args ds gs before hval0 hW hcnd _
  have hval : ∀ (j : Nat) t v, Try.f3.params[j]? = some t → args[j]? = some v → Value.okWide Try.prog W .any base t v := hval0
  have hW' := hW
  obtain ⟨p, q, hA0, hV, rfl, hfz, hnd⟩ := hW
  have hA : DataW.TrodAll enc Try.prog W 0 (fun _ => true) true Try.f3.params.toList args.toList ds p := hA0
  rw [Try.params3] at hA hval
  obtain ⟨v0, vs0, d0, ds0, p0, q0, hargs, rfl, rfl, h0, r0⟩ := trodAll_cons hA
  obtain ⟨v1, vs1, d1, ds1, p1, q1, rfl, rfl, rfl, h1, r1⟩ := trodAll_cons r0
  obtain ⟨rfl, rfl, rfl⟩ := trodAll_nil r1
  obtain rfl : args = #[v0, v1] := by cases args; simp_all
  obtain ⟨rfl, rfl⟩ := trodVars_none hV
  have k0 := h0
  have lt0 : ∀ x ∈ p0, x.block < W.heap.size := by obtain ⟨m, hm⟩ := k0; exact DataW.trod_lt m _ _ _ hm
  obtain ⟨e0, vr0, hv0, w0⟩ := draft_of_trod (hval 0 25 v0 rfl rfl) h0
  subst hv0
  obtain ⟨a1, len1, cap1, rfl⟩ := okWide_slice Try.underlying26 (hval 1 26 v1 rfl rfl)
  have k1 := h1
  have lt1 : ∀ x ∈ p1, x.block < W.heap.size := by obtain ⟨m, hm⟩ := k1; exact DataW.trod_lt m _ _ _ hm
  obtain ⟨z1, w1⟩ : ∃ zs : List Bool, zs.length = len1 ∧ Rd W W.heap.size (.slice a1 len1 cap1) (cvals zs) := by
    obtain ⟨fuel, hf⟩ := h1
    rcases Go.Deep.open_bools Try.underlying26 Try.underlying4 (by kernel_rfl) hf with ⟨hcs, _⟩ | ⟨x, l, c, B, hcs, _, hl, hm, _, hcell⟩
    · simp [Value.cells] at hcs
      obtain ⟨rfl, rfl, rfl⟩ := hcs
      exact ⟨[], rfl, Rd.empty _ _⟩
    · simp [Value.cells] at hcs
      obtain ⟨rfl, rfl, rfl⟩ := hcs
      exact bools_arg hl hcell
  clear hA0 hval0
  refine (walk e0 vr0 a1 len1 cap1 z1 W w0 w1).mono fun e W' ⟨he, bel⟩ => ?_
  subst he
  exact ⟨_, rfl, _, _, _, [], _, [], hW', trodAll_mk1 (shut_bool Try.underlying4 _), (trodAll_cons_mk (Below.trod laidOut (by kernel_rfl) (of_decide_eq_true (by kernel_rfl)) k0 bel lt0) (trodAll_cons_mk (Below.trod laidOut (by kernel_rfl) (of_decide_eq_true (by kernel_rfl)) k1 bel lt1) trodAll_mk0)), rfl, bel.frame _, fun h => by cases h⟩

theorem over : Rows.graphTracksRow.holds Try.pinned (OpenSpec.ofChange Rows.graphTracksSpec) :=
  OpenClaim.holds_of_wide 3 Try.f3 rfl rfl rfl rfl rfl rfl rfl ⟨rfl, rfl, rfl, rfl, rfl⟩ rfl rfl rfl rfl rfl (by kernel_rfl) Try.func3 (by kernel_rfl)
    (of_decide_eq_true (by kernel_rfl)) (by unfold Func.isWrapper; first | (rw [if_pos (by decide +kernel)]; kernel_rfl) | (rw [if_neg (by decide +kernel)]; exact ⟨rfl, rfl⟩))
    (fun os started H enc _ => lifted os started H enc)

theorem proved : Rows.GraphTracksSaid := over
#print axioms proved
end Go.Proofs.Ytpipkbdkkbcooaa.graphTracks
