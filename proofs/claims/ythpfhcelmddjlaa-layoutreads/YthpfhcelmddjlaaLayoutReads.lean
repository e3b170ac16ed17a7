/-
  PROVED: for every input the law LayoutReads returns true and leaves its argument as it was: any bytes, with their sum behind, also behind the letters, are read by the program as by the document. No condition.
-/
import Derived.Test.YthpfhcelmddjlaaRows
import Derived.Test.YthpfhcelmddjlaaBare
import Derived.WalkKit
import Derived.ProofKit
import Derived.OpenShut
import Derived.ShutString
import Derived.ChangeOld
import Derived.Below
namespace Go.Proofs.Ythpfhcelmddjlaa.layoutReads
open Go.ChangeShapes Go.WideShapes Go.ChangeAt Go.RowKit
open Go.ChangeMaps (open_string shut_string)
set_option linter.unusedVariables false

theorem own : ownKnob Try.prog.godebug = none := by kernel_rfl
theorem laidOut : laidOutB Try.prog = true := by kernel_rfl

/-- WHAT THE WALK IS TOLD OF A SLICE OF INTEGERS THAT CAME IN: it is nil; or it leads to a row of 'cap' cells, the numbers 'zs' (the first 'len' are its elements, the rest its spare room), each fitting its kind. -/
def IsRow (k : IntKind) (w : World) (a : Option Addr) (len cap : Nat) (zs : List Int) : Prop :=
  (a = none ∧ len = 0 ∧ cap = 0 ∧ zs = []) ∨
  ∃ x, a = some x ∧ len ≤ cap ∧ cap ≤ maxLen ∧ zs.length = cap ∧ (∀ i, i < zs.length → w.cell? (x.add i) = some (.int k (zs.getD i 0))) ∧ ∀ n ∈ zs, (Lit.int k n).wf = true

/-! ### STEP 1: THE WALK: the Go text returns true, AND WRITES NOTHING THAT WAS THERE: 'Below w.heap.size w w'' (Derived/Below.lean: '.refl', '.alloc', '.drew', '.setCell' at a new block, '.trans'). Open each 'IsRow' by 'rcases' AHEAD of 'go_enter'; part every test ahead of the walk. -/
set_option maxHeartbeats 4000000 in
theorem walk (a0 : Option Addr) (len0 cap0 : Nat) (z0 : List Int) (w : World) (w0 : IsRow .u8 w a0 len0 cap0 z0) :
    Calls Try.prog 4 #[.slice a0 len0 cap0] w fun e w' => e = .returned (.bool true) ∧ Below w.heap.size w w' := by
  have kc := fun (w : World) (C : Array Value) (n c : Nat) => Lib.run_convert_bytes_const (P := Try.prog) w 35 5 C n c Try.underlying35 Try.underlying5
  obtain ⟨q, hql, hsm, hrd⟩ := arg_any w0
  clear w0
  have HRD := Lib.hid hrd; have HSM := Lib.hid hsm; have HQL := Lib.hid hql
  clear hrd hsm hql
  by_cases hbig : 200 < len0
  · go_enter Try.func4, Try.ntmps4
    go_wp2_with fail
    refine (bare_any _).mono ?_; rintro e wA ⟨rfl, hbA⟩
    have HA := Lib.hid hbA; clear hbA
    go_wp2_with fail
    refine (bare_any _).mono ?_; rintro e wB ⟨rfl, hbB⟩
    have HB := Lib.hid (HA.out.trans (hbB.mono HA.out.size)); clear hbB
    go_wp2_with fail
    go_ret
    exact ⟨rfl, HB.out⟩
  have hn : len0 ≤ 200 := by omega
  clear hbig
  have HQN : Hid (q.length ≤ 200) := by have := HQL.out; show _ ≤ _; omega
  go_enter Try.func4, Try.ntmps4
  go_wp2_with fail
  refine (bare_any _).mono ?_; rintro e wA ⟨rfl, hbA⟩
  have HA := Lib.hid hbA
  have HRA := Lib.hid (HRD.out.up hbA)
  clear hbA
  go_wp2_with fail
  refine (reads_any wA _ q HRA.out HSM.out (by have := HQN.out; omega)).mono ?_; rintro e wB ⟨rfl, hbB⟩
  have HB := Lib.hid (HA.out.trans (hbB.mono HA.out.size))
  have HRB := Lib.hid (HRA.out.up hbB)
  clear hbB
  go_wp2_with fail
  refine (refClose_any wB _ _ q HRB.out (Nat.le_refl _) HSM.out (by have := HQN.out; omega)).mono ?_; rintro e wC ⟨v1, rfl, ho1, hbC⟩
  have HC := Lib.hid (HB.out.trans (hbC.mono HB.out.size))
  have HRC := Lib.hid (HRB.out.up hbC)
  have HO1 := Lib.hid (Rd.of_own ho1)
  clear hbC ho1
  go_wp2_with fail
  refine (reads_any wC v1 (closed q) HO1.out (closed_small HSM.out) (by have := HQN.out; rw [closed_length]; omega)).mono ?_; rintro e wD ⟨rfl, hbD⟩
  have HD := Lib.hid (HC.out.trans (hbD.mono HC.out.size))
  have HRD2 := Lib.hid (HRC.out.up hbD)
  clear hbD
  have r1 := Rd.lit wD [66, 76] (2, 3)
  have hb0 := (Below.refl wD.heap.size wD).alloc (Nat.le_refl _) (.cells (bvals [66, 76]).toArray 5 (2, 3))
  have HR1 := Lib.hid (r1.mono (w' := wD.alloc (.cells (bvals [66, 76]).toArray 5 (2, 3))) (B' := (wD.alloc (.cells (bvals [66, 76]).toArray 5 (2, 3))).heap.size) (by rw [World.size_alloc]; exact Nat.le_refl _) fun _ _ => rfl)
  have HR2 := Lib.hid (HRD2.out.up hb0)
  have HE := Lib.hid (HD.out.trans (hb0.mono HD.out.size))
  clear r1 hb0
  go_wp2_with fail
  refine (join_any _ _ _ _ [66, 76] q HR1.out HR2.out (Nat.le_refl _) (by simp) (by have := HQN.out; omega)).mono ?_; rintro e wF ⟨v2, rfl, ho2, hbF⟩
  have HF := Lib.hid (HE.out.trans (hbF.mono HE.out.size))
  have HO2 := Lib.hid (Rd.of_own ho2)
  have HS2 : Hid (∀ x ∈ [66, 76] ++ q, x < 256) := by
    intro x hx
    simp only [List.cons_append, List.nil_append, List.mem_cons] at hx
    rcases hx with rfl | rfl | hx
    · decide
    · decide
    · exact HSM.out x hx
  have HL2 : Hid (([66, 76] ++ q).length ≤ 202) := by have := HQN.out; show _ ≤ _; simp; omega
  clear hbF ho2
  generalize [66, 76] ++ q = q2 at *
  go_wp2_with fail
  refine (refClose_any wF _ v2 q2 HO2.out (Nat.le_refl _) HS2.out (by have := HL2.out; omega)).mono ?_; rintro e wG ⟨v3, rfl, ho3, hbG⟩
  have HG := Lib.hid (HF.out.trans (hbG.mono HF.out.size))
  have HO3 := Lib.hid (Rd.of_own ho3)
  clear hbG ho3
  go_wp2_with fail
  refine (reads_any wG v3 (closed q2) HO3.out (closed_small HS2.out) (by have := HL2.out; rw [closed_length]; omega)).mono ?_; rintro e wH ⟨rfl, hbH⟩
  have HH := Lib.hid (HG.out.trans (hbH.mono HG.out.size))
  clear hbH
  go_wp2_with fail
  go_ret
  exact ⟨rfl, HH.out⟩

/-! ### THE ROW's STEP: WRITTEN OUT: LEAVE IT -/
set_option maxRecDepth 100000 in
theorem lifted (os : Os) (started : os.Started) (H : Type) (enc : TypeId × Value → H) :
    ReturnsInHanded {} Try.checked os 4 .any (Rows.layoutReadsSpec.pre6 enc Try.prog Try.f4 Rows.layoutReadsRow.domain false) (Rows.layoutReadsSpec.post enc Try.prog Try.f4 false true false false) := by
  refine returnsInHanded_of_change (C := Try.checked) own started (by kernel_rfl) Try.func4
    (ChangeSpec.witness6 (enc := enc) (C := Try.checked) false ⟨#[], #[.slice none 0 0], []⟩ 8 (by kernel_rfl) (by kernel_rfl) (by kernel_rfl) (by kernel_rfl)) ?_
  intro W base args ds gs before hval0 hW hcnd _
  have hval : ∀ (j : Nat) t v, Try.f4.params[j]? = some t → args[j]? = some v → Value.okWide Try.prog W .any base t v := hval0
  have hW' := hW
  obtain ⟨p, q, hA0, hV, rfl, hfz, hnd⟩ := hW
  have hA : DataW.TrodAll enc Try.prog W 0 (fun _ => true) true Try.f4.params.toList args.toList ds p := hA0
  rw [Try.params4] at hA hval
  obtain ⟨v0, vs0, d0, ds0, p0, q0, hargs, rfl, rfl, h0, r0⟩ := trodAll_cons hA
  obtain ⟨rfl, rfl, rfl⟩ := trodAll_nil r0
  obtain rfl : args = #[v0] := by cases args; simp_all
  obtain ⟨rfl, rfl⟩ := trodVars_none hV
  obtain ⟨a0, len0, cap0, rfl⟩ := okWide_slice Try.underlying35 (hval 0 35 v0 rfl rfl)
  have k0 := h0
  have lt0 : ∀ x ∈ p0, x.block < W.heap.size := by obtain ⟨m, hm⟩ := k0; exact DataW.trod_lt m _ _ _ hm
  obtain ⟨z0, w0⟩ : ∃ zs, IsRow .u8 W a0 len0 cap0 zs := by
    obtain ⟨fuel, hf⟩ := h0
    rcases open_ints Try.underlying35 Try.underlying5 (by kernel_rfl) hf with ⟨hcs, _⟩ | ⟨x, l, c, zs, hcs, _, hl, hm, hz, _, hcell, hwz⟩
    · simp [Value.cells] at hcs
      obtain ⟨rfl, rfl, rfl⟩ := hcs
      exact ⟨[], .inl ⟨rfl, rfl, rfl, rfl⟩⟩
    · simp [Value.cells] at hcs
      obtain ⟨rfl, rfl, rfl⟩ := hcs
      exact ⟨zs, .inr ⟨_, rfl, hl, hm, by simpa using hz, hcell, hwz⟩⟩
  clear hA0 hval0
  refine (walk a0 len0 cap0 z0 W w0).mono fun e W' ⟨he, bel⟩ => ?_
  subst he
  exact ⟨_, rfl, _, _, _, [], _, [], hW', trodAll_mk1 (shut_bool Try.underlying4 _), (trodAll_cons_mk (Below.trod laidOut (by kernel_rfl) (of_decide_eq_true (by kernel_rfl)) k0 bel lt0) trodAll_mk0), rfl, bel.frame _, fun h => by cases h⟩

theorem over : Rows.layoutReadsRow.holds Try.pinned (OpenSpec.ofChange Rows.layoutReadsSpec) :=
  OpenClaim.holds_of_wide 4 Try.f4 rfl rfl rfl rfl rfl rfl rfl ⟨rfl, rfl, rfl, rfl, rfl⟩ rfl rfl rfl rfl rfl (by kernel_rfl) Try.func4 (by kernel_rfl)
    (of_decide_eq_true (by kernel_rfl)) (by unfold Func.isWrapper; first | (rw [if_pos (by decide +kernel)]; kernel_rfl) | (rw [if_neg (by decide +kernel)]; exact ⟨rfl, rfl⟩))
    (fun os started H enc _ => lifted os started H enc)

/-- ████ THE STATEMENT ████ -/
theorem proved : Rows.LayoutReadsSaid := over
#print axioms proved
end Go.Proofs.Ythpfhcelmddjlaa.layoutReads
