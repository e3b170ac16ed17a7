/-
  PROVED: OwnRuns: step by step, what is told once is what was, then: for every draft, every field and every list of fields the law answers true, and each argument reads as it did; no condition.
-/
import Derived.Test.YthnjilbfkfekhaaRows
import Derived.Test.YthnjilbfkfekhaaL4
import Derived.WalkKit
import Derived.ProofKit
import Derived.OpenShut
import Derived.ShutString
import Derived.ChangeOld
import Derived.Below
namespace Go.Proofs.Ythnjilbfkfekhaa.ownRuns
open Go.ChangeShapes Go.WideShapes Go.ChangeAt Go.RowKit
open Go.ChangeMaps (open_string shut_string)
set_option linter.unusedVariables false
set_option maxRecDepth 100000

theorem own : ownKnob Try.prog.godebug = none := by kernel_rfl
theorem laidOut : laidOutB Try.prog = true := by kernel_rfl

set_option maxHeartbeats 8000000 in
theorem walk (d0 : Dr) (vr0 : Value) (f1 : Fd) (Ao1 Ac1 Av1 : Option Addr) (co1 cc1 cv1 : Nat) (A2 : Option Addr) (c2 : Nat) (fs2 : List Fr) (w : World) (w0 : DrOk d0 ∧ BRows w w.heap.size vr0 d0.routes ∧ d0.routes.length ≤ 9223372036854775807 ∧ ∀ r ∈ d0.routes, r.length ≤ 9223372036854775807) (w1 : FdV w w.heap.size Ao1 Ac1 Av1 co1 cc1 cv1 f1 ∧ FdOk f1 ∧ FdLen f1) (w2 : Flds w (.slice A2 fs2.length c2) fs2 ∧ (∀ r ∈ fs2, FdOk r.f ∧ FdLen r.f) ∧ fs2.length ≤ 9223372036854775807) :
    Calls Try.prog 4 #[drV d0 vr0, .agg (fcells Ao1 Ac1 Av1 f1.own.length f1.clr.length f1.vws.length co1 cc1 cv1), .slice A2 fs2.length c2] w fun e w' => e = .returned (.bool true) ∧ Below w.heap.size w w' := by
  obtain ⟨hd, hbr, hl, hrl⟩ := w0
  obtain ⟨hfv, hfo, hfl⟩ := w1
  obtain ⟨hfs, hgfs, hnl⟩ := w2
  exact lawRuns w d0 vr0 f1 Ao1 Ac1 Av1 co1 cc1 cv1 A2 c2 fs2 hd hbr hl hrl hfv hfo hfl hfs hgfs hnl

theorem lifted (os : Os) (started : os.Started) (H : Type) (enc : TypeId × Value → H) :
    ReturnsInHanded {} Try.checked os 4 .any (Rows.ownRunsSpec.pre6 enc Try.prog Try.f4 Rows.ownRunsRow.domain false) (Rows.ownRunsSpec.post enc Try.prog Try.f4 false true false false) := by
  refine returnsInHanded_of_change (C := Try.checked) own started (by kernel_rfl) Try.func4
    (ChangeSpec.witness6 (enc := enc) (C := Try.checked) false ⟨#[], #[.agg #[.int .u8 0, .int .u8 0, .int .u8 0, .int .u16 0, .int .u16 0, .int .u8 0, .int .u8 0, .int .u8 0, .slice none 0 0], .agg #[.slice none 0 0, .slice none 0 0, .slice none 0 0], .slice none 0 0], []⟩ 8 (by kernel_rfl) (by kernel_rfl) (by kernel_rfl) (by kernel_rfl)) ?_
  intro W base args ds gs before hval0 hW hcnd _
  have hval : ∀ (j : Nat) t v, Try.f4.params[j]? = some t → args[j]? = some v → Value.okWide Try.prog W .any base t v := hval0
  have hW' := hW
  obtain ⟨p, q, hA0, hV, rfl, hfz, hnd⟩ := hW
  have hA : DataW.TrodAll enc Try.prog W 0 (fun _ => true) true Try.f4.params.toList args.toList ds p := hA0
  rw [Try.params4] at hA hval
  obtain ⟨v0, vs0, d0, ds0, p0, q0, hargs, rfl, rfl, h0, r0⟩ := trodAll_cons hA
  obtain ⟨v1, vs1, d1, ds1, p1, q1, rfl, rfl, rfl, h1, r1⟩ := trodAll_cons r0
  obtain ⟨v2, vs2, d2, ds2, p2, q2, rfl, rfl, rfl, h2, r2⟩ := trodAll_cons r1
  obtain ⟨rfl, rfl, rfl⟩ := trodAll_nil r2
  obtain rfl : args = #[v0, v1, v2] := by cases args; simp_all
  obtain ⟨rfl, rfl⟩ := trodVars_none hV
  have k0 := h0
  have lt0 : ∀ x ∈ p0, x.block < W.heap.size := by obtain ⟨m, hm⟩ := k0; exact DataW.trod_lt m _ _ _ hm
  obtain ⟨e0, vr0, hv0, w0⟩ := draft_of_trod (hval 0 25 v0 rfl rfl) h0
  subst hv0
  have k1 := h1
  have lt1 : ∀ x ∈ p1, x.block < W.heap.size := by obtain ⟨m, hm⟩ := k1; exact DataW.trod_lt m _ _ _ hm
  obtain ⟨f1, Ao1, Ac1, Av1, co1, cc1, cv1, hv1, w1⟩ := field_of_trod (hval 1 30 v1 rfl rfl) h1
  subst hv1
  obtain ⟨a2, len2, cap2, rfl⟩ := okWide_slice Try.underlying52 (hval 2 52 v2 rfl rfl)
  have k2 := h2
  have lt2 : ∀ x ∈ p2, x.block < W.heap.size := by obtain ⟨m, hm⟩ := k2; exact DataW.trod_lt m _ _ _ hm
  obtain ⟨A2, fs2, c2, hv2, w2⟩ : ∃ (A : Option Addr) (fs : List Fr) (c : Nat), Value.slice a2 len2 cap2 = .slice A fs.length c ∧ Flds W (.slice A fs.length c) fs ∧ (∀ r ∈ fs, FdOk r.f ∧ FdLen r.f) ∧ fs.length ≤ 9223372036854775807 := by
    obtain ⟨fuel, hf⟩ := h2
    exact flds_of_trod (by simpa [Value.cells] using hf)
  injection hv2 with hx2 hy2 hz2
  subst hx2 hy2 hz2
  clear hA0 hval0
  refine (walk e0 vr0 f1 Ao1 Ac1 Av1 co1 cc1 cv1 _ _ fs2 W w0 w1 w2).mono fun e W' ⟨he, bel⟩ => ?_
  subst he
  exact ⟨_, rfl, _, _, _, [], _, [], hW', trodAll_mk1 (shut_bool Try.underlying4 _), (trodAll_cons_mk (Below.trod laidOut (by kernel_rfl) (of_decide_eq_true (by kernel_rfl)) k0 bel lt0) (trodAll_cons_mk (Below.trod laidOut (by kernel_rfl) (of_decide_eq_true (by kernel_rfl)) k1 bel lt1) (trodAll_cons_mk (Below.trod laidOut (by kernel_rfl) (of_decide_eq_true (by kernel_rfl)) k2 bel lt2) trodAll_mk0))), rfl, bel.frame _, fun h => by cases h⟩

theorem over : Rows.ownRunsRow.holds Try.pinned (OpenSpec.ofChange Rows.ownRunsSpec) :=
  OpenClaim.holds_of_wide 4 Try.f4 rfl rfl rfl rfl rfl rfl rfl ⟨rfl, rfl, rfl, rfl, rfl⟩ rfl rfl rfl rfl rfl (by kernel_rfl) Try.func4 (by kernel_rfl)
    (of_decide_eq_true (by kernel_rfl)) (by unfold Func.isWrapper; first | (rw [if_pos (by decide +kernel)]; kernel_rfl) | (rw [if_neg (by decide +kernel)]; exact ⟨rfl, rfl⟩))
    (fun os started H enc _ => lifted os started H enc)

theorem proved : Rows.OwnRunsSaid := over
#print axioms proved
end Go.Proofs.Ythnjilbfkfekhaa.ownRuns
