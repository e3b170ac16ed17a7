/-
  PROVED: for every []byte and two bytes, the law CrcNoughts of package crc answers true (noughts ahead, and behind, are seen). No condition.
-/
import Derived.Test.YtgefpeppjkggmaaRows
import Derived.Test.YtgefpeppjkggmaaArg
import Derived.WalkKit
import Derived.ProofKit
import Derived.OpenShut
import Derived.ShutString
import Derived.ChangeOld
import Derived.Below
import Derived.Deep.RegionWith
import Derived.Deep.DeepCutAuto
namespace Go.Proofs.Ytgefpeppjkggmaa.crcNoughts
open Go.ChangeShapes Go.WideShapes Go.ChangeAt Go.RowKit
open Go.ChangeMaps (open_string shut_string)
set_option linter.unusedVariables false

theorem own : ownKnob Try.prog.godebug = none := by kernel_rfl
theorem laidOut : laidOutB Try.prog = true := by kernel_rfl

/-- WHAT THE WALK IS TOLD OF A SLICE OF INTEGERS THAT CAME IN: it is nil; or it leads to a row of 'cap' cells, the numbers 'zs' (the first 'len' are its elements, the rest its spare room), each fitting its kind. -/
def IsRow (k : IntKind) (w : World) (a : Option Addr) (len cap : Nat) (zs : List Int) : Prop :=
  (a = none ∧ len = 0 ∧ cap = 0 ∧ zs = []) ∨
  ∃ x, a = some x ∧ len ≤ cap ∧ cap ≤ maxLen ∧ zs.length = cap ∧ (∀ i, i < zs.length → w.cell? (x.add i) = some (.int k (zs.getD i 0))) ∧ ∀ n ∈ zs, (Lit.int k n).wf = true

/-! ### STEP 1: THE WALK: the Go text returns true, AND WRITES NOTHING THAT WAS THERE: 'Below w.heap.size w w'' (Derived/Below.lean: '.refl', '.alloc', '.drew', '.setCell' at a new block, '.trans'). Open each 'IsRow' by 'rcases' AHEAD of 'go_enter'; part every test ahead of the walk. -/
set_option maxHeartbeats 2000000 in
theorem walk (a0 : Option Addr) (len0 cap0 : Nat) (z0 : List Int) (a1 : Int) (a2 : Int) (w : World) (w0 : IsRow .u8 w a0 len0 cap0 z0) (w1 : (Lit.int .u8 a1).wf = true) (w2 : (Lit.int .u8 a2).wf = true) :
    Calls Try.prog 7 #[.slice a0 len0 cap0, .int .u8 a1, .int .u8 a2] w fun e w' => e = .returned (.bool true) ∧ Below w.heap.size w w' := by
  obtain ⟨q, hql, hsm, hrd⟩ := arg_any w0
  clear w0
  obtain ⟨x1, rfl, hx1⟩ : ∃ x : Nat, a1 = x ∧ x < 256 := by
    simp only [Lit.wf, Bool.and_eq_true, decide_eq_true_eq] at w1
    rw [show IntKind.u8.min = 0 from by decide, show IntKind.u8.max = 255 from by decide] at w1
    exact ⟨a1.toNat, by omega, by omega⟩
  obtain ⟨x2, rfl, hx2⟩ : ∃ x : Nat, a2 = x ∧ x < 256 := by
    simp only [Lit.wf, Bool.and_eq_true, decide_eq_true_eq] at w2
    rw [show IntKind.u8.min = 0 from by decide, show IntKind.u8.max = 255 from by decide] at w2
    exact ⟨a2.toNat, by omega, by omega⟩
  clear w1 w2
  have HRD := Lib.hid hrd; have HSM := Lib.hid hsm; have HQL := Lib.hid hql
  clear hrd hsm hql
  by_cases hbig : 100 < len0
  · go_enter Try.func7, Try.ntmps7
    go_wp2_with fail
    refine (known_any _).mono ?_; rintro e wA ⟨rfl, hbA⟩
    have HA := Lib.hid hbA; clear hbA
    go_wp2_with fail
    refine (known_any _).mono ?_; rintro e wB ⟨rfl, hbB⟩
    have HB := Lib.hid (HA.out.trans (hbB.mono HA.out.size)); clear hbB
    go_wp2_with fail
    go_ret
    exact ⟨rfl, HB.out⟩
  have hn : len0 ≤ 100 := by omega
  clear hbig
  have hqn : q.length ≤ 100 := by have := HQL.out; omega
  obtain ⟨n1, hn1, hw1⟩ : ∃ n : Nat, n < 40 ∧ IntKind.i64.wrap ((x1 : Int).tmod 40) = (n : Int) := ⟨x1 % 40, by omega, by rw [Int.tmod_eq_emod_of_nonneg (by omega), IntKind.wrap_i64]; omega⟩
  obtain ⟨n2, hn2, hw2⟩ : ∃ n : Nat, n < 40 ∧ IntKind.i64.wrap ((x2 : Int).tmod 40) = (n : Int) := ⟨x2 % 40, by omega, by rw [Int.tmod_eq_emod_of_nonneg (by omega), IntKind.wrap_i64]; omega⟩
  have hmk1 := fun W => make_bytes n1 (by omega) W
  have hmk2 := fun W => make_bytes n2 (by omega) W
  go_enter Try.func7, Try.ntmps7
  go_wp2_with fail
  refine (known_any _).mono ?_; rintro e wA ⟨rfl, hbA⟩
  have HA := Lib.hid hbA; clear hbA
  have HRA := Lib.hid (HRD.out.up HA.out)
  have HSA := Lib.hid HA.out.size
  obtain ⟨L1, hL1⟩ : ∃ L, L = List.replicate n1 0 ++ q := ⟨_, rfl⟩
  obtain ⟨L2, hL2⟩ : ∃ L, L = L1 ++ List.replicate n2 0 := ⟨_, rfl⟩
  have hLS : (∀ x ∈ L2, x < 256) ∧ L1.length ≤ 1000 ∧ L2.length ≤ 1000 := by
    subst hL2; subst hL1
    refine ⟨fun x hx => ?_, by simp; omega, by simp; omega⟩
    simp only [List.mem_append, List.mem_replicate] at hx
    rcases hx with (hx | hx) | hx
    · omega
    · exact HSM.out x hx
    · omega
  have HLS := Lib.hid hLS
  clear hLS
  have j1 : ∀ (W : World) (g : Nat), Row W g 5 (bvals (List.replicate n1 0)).toArray → Below wA.heap.size wA W → Calls Try.prog 16 #[.slice (some ⟨g, 0, none⟩) n1 n1, .slice a0 len0 cap0] W (RetBytes L1 W) := by
    intro W g hr hb
    subst hL1
    exact join_any W W.heap.size _ _ _ q (Rd.row n1 (by simp) hr (by simp; omega)) (HRA.out.up hb) (Nat.le_refl _) (by simp; omega) (by omega)
  have j2 : ∀ (W : World) (v : Value) (g : Nat), (∃ b, W.ownsRow b 5 1 v L1.length (bvals L1)) → Row W g 5 (bvals (List.replicate n2 0)).toArray → Calls Try.prog 16 #[v, .slice (some ⟨g, 0, none⟩) n2 n2] W (RetBytes L2 W) := by
    intro W v g ⟨b, ho⟩ hr
    subst hL2
    exact join_any W W.heap.size _ _ L1 _ (Rd.of_own ho) (Rd.row n2 (by simp) hr (by simp; omega)) (Nat.le_refl _) (by have := HLS.out.2.1; omega) (by simp; omega)
  have HJ1 := Lib.hid j1; have HJ2 := Lib.hid j2
  clear j1 j2 hL1 hL2
  go_upto_region 3 with (fail)
  go_cut [7] (fun v wx => Hid (∃ b, wx.ownsRow b 5 1 v L2.length (bvals L2)) ∧ Hid (Below w.heap.size w wx))
  case first =>
    go_region_with (first
      | (go_at_call 16
         with_reducible refine (HJ1.out _ _ ?_ ?_).mono ?_
         · first | exact Row.new wA 5 _ | exact (Row.new wA 5 _).alloc _ | exact row_next wA _ 5 _
         · first | exact ((Below.refl _ _).alloc (Nat.le_refl _) _).drew | exact (((Below.refl _ _).alloc (Nat.le_refl _) _).alloc (by simp) _).drew
         rintro e w1 ⟨v1, rfl, ho1, hb1⟩
         have HO1 := Lib.hid ho1; have HB1 := Lib.hid hb1
         clear ho1 hb1)
      | (go_at_call 16
         with_reducible refine (HJ2.out _ _ _ ?_ ?_).mono ?_
         · first | exact ⟨_, HO1.out⟩ | exact ⟨_, HO1.out.alloc _⟩
         · first | exact Row.new _ 5 _ | exact (HB1.out.block _ (by simp <;> omega)).trans ((Row.new wA 5 _).alloc _) | exact (HB1.out.block _ (by simp <;> omega)).trans (row_next wA _ 5 _)
         rintro e w2 ⟨v2, rfl, ho2, hb2⟩
         have HO2 := Lib.hid ho2; have HB2 := Lib.hid hb2
         clear ho2 hb2))
    all_goals
      go_wp2_with fail
      go_meet
      exact ⟨⟨_, HO2.out⟩, by first | exact chain3 HA.out HB1.out HB2.out | exact chain2 HA.out HB1.out HB2.out⟩
  case rest =>
    obtain ⟨HO, HB⟩ := hcut
    obtain ⟨b, ho⟩ := HO.out
    obtain ⟨A2, c2, hv, _⟩ := Rd.of_own ho
    rw [bvals_length] at hv
    subst hv
    have HR := Lib.hid (Rd.of_own ho)
    clear ho HO
    have hL2 : L2.length ≤ 1000 := HLS.out.2.2
    generalize hl2 : L2.length = l2 at *
    have HL2 := Lib.hid hl2; clear hl2
    have hL2' : L2.length ≤ 10000000 := by have := HL2.out; omega
    have HL2' := Lib.hid hL2'; clear hL2'
    go_wp2_with fail
    refine (of_any wc _ _ L2 HR.out HLS.out.1 HL2'.out).mono ?_; rintro e w' ⟨rfl, rfl⟩
    go_wp2_with fail
    refine (refOf_any wc _ _ L2 HR.out (Nat.le_refl _) HLS.out.1 HL2'.out).mono ?_; rintro e wD ⟨rfl, hbD⟩
    have HBD := Lib.hid (HB.out.trans (hbD.mono HB.out.size))
    have HRD2 := Lib.hid (HR.out.up hbD)
    clear hbD
    go_wp2_with fail
    refine (close_any wD _ _ L2 HRD2.out (Nat.le_refl _) HLS.out.1 HL2'.out).mono ?_; rintro e wE ⟨v1, rfl, ho1, hbE⟩
    obtain ⟨A3, c3, hv, _⟩ := Rd.of_own ho1
    rw [bvals_length, closed_length, HL2.out] at hv
    subst hv
    have HBE := Lib.hid (HBD.out.trans (hbE.mono HBD.out.size))
    clear hbE ho1
    go_wp2_with fail
    go_ret
    exact ⟨rfl, HBE.out⟩

/-! ### THE ROW's STEP: WRITTEN OUT: LEAVE IT -/
set_option maxRecDepth 100000 in
theorem lifted (os : Os) (started : os.Started) (H : Type) (enc : TypeId × Value → H) :
    ReturnsInHanded {} Try.checked os 7 .any (Rows.crcNoughtsSpec.pre6 enc Try.prog Try.f7 Rows.crcNoughtsRow.domain false) (Rows.crcNoughtsSpec.post enc Try.prog Try.f7 false true false false) := by
  refine returnsInHanded_of_change (C := Try.checked) own started (by kernel_rfl) Try.func7
    (ChangeSpec.witness6 (enc := enc) (C := Try.checked) false ⟨#[], #[.slice none 0 0, .int .u8 0, .int .u8 0], []⟩ 8 (by kernel_rfl) (by kernel_rfl) (by kernel_rfl) (by kernel_rfl)) ?_
  intro W base args ds gs before hval0 hW hcnd _
  have hval : ∀ (j : Nat) t v, Try.f7.params[j]? = some t → args[j]? = some v → Value.okWide Try.prog W .any base t v := hval0
  have hW' := hW
  obtain ⟨p, q, hA0, hV, rfl, hfz, hnd⟩ := hW
  have hA : DataW.TrodAll enc Try.prog W 0 (fun _ => true) true Try.f7.params.toList args.toList ds p := hA0
  rw [Try.params7] at hA hval
  obtain ⟨v0, vs0, d0, ds0, p0, q0, hargs, rfl, rfl, h0, r0⟩ := trodAll_cons hA
  obtain ⟨v1, vs1, d1, ds1, p1, q1, rfl, rfl, rfl, h1, r1⟩ := trodAll_cons r0
  obtain ⟨v2, vs2, d2, ds2, p2, q2, rfl, rfl, rfl, h2, r2⟩ := trodAll_cons r1
  obtain ⟨rfl, rfl, rfl⟩ := trodAll_nil r2
  obtain rfl : args = #[v0, v1, v2] := by cases args; simp_all
  obtain ⟨rfl, rfl⟩ := trodVars_none hV
  obtain ⟨a0, len0, cap0, rfl⟩ := okWide_slice Try.underlying22 (hval 0 22 v0 rfl rfl)
  have k0 := h0
  have lt0 : ∀ x ∈ p0, x.block < W.heap.size := by obtain ⟨m, hm⟩ := k0; exact DataW.trod_lt m _ _ _ hm
  obtain ⟨z0, w0⟩ : ∃ zs, IsRow .u8 W a0 len0 cap0 zs := by
    obtain ⟨fuel, hf⟩ := h0
    rcases open_ints Try.underlying22 Try.underlying5 (by kernel_rfl) hf with ⟨hcs, _⟩ | ⟨x, l, c, zs, hcs, _, hl, hm, hz, _, hcell, hwz⟩
    · simp [Value.cells] at hcs
      obtain ⟨rfl, rfl, rfl⟩ := hcs
      exact ⟨[], .inl ⟨rfl, rfl, rfl, rfl⟩⟩
    · simp [Value.cells] at hcs
      obtain ⟨rfl, rfl, rfl⟩ := hcs
      exact ⟨zs, .inr ⟨_, rfl, hl, hm, by simpa using hz, hcell, hwz⟩⟩
  obtain ⟨a1, rfl, rfl, rfl, w1⟩ := open_int Try.underlying5 (hval 1 5 v1 rfl rfl) h1
  obtain ⟨a2, rfl, rfl, rfl, w2⟩ := open_int Try.underlying5 (hval 2 5 v2 rfl rfl) h2
  clear hA0 hval0
  refine (walk a0 len0 cap0 z0 a1 a2 W w0 w1 w2).mono fun e W' ⟨he, bel⟩ => ?_
  subst he
  exact ⟨_, rfl, _, _, _, [], _, [], hW', trodAll_mk1 (shut_bool Try.underlying4 _), (trodAll_cons_mk (Below.trod laidOut (by kernel_rfl) (of_decide_eq_true (by kernel_rfl)) k0 bel lt0) (trodAll_cons_mk (shut_int Try.underlying5 w1) (trodAll_cons_mk (shut_int Try.underlying5 w2) trodAll_mk0))), rfl, bel.frame _, fun h => by cases h⟩

theorem over : Rows.crcNoughtsRow.holds Try.pinned (OpenSpec.ofChange Rows.crcNoughtsSpec) :=
  OpenClaim.holds_of_wide 7 Try.f7 rfl rfl rfl rfl rfl rfl rfl ⟨rfl, rfl, rfl, rfl, rfl⟩ rfl rfl rfl rfl rfl (by kernel_rfl) Try.func7 (by kernel_rfl)
    (of_decide_eq_true (by kernel_rfl)) (by unfold Func.isWrapper; first | (rw [if_pos (by decide +kernel)]; kernel_rfl) | (rw [if_neg (by decide +kernel)]; exact ⟨rfl, rfl⟩))
    (fun os started H enc _ => lifted os started H enc)

/-- ████ THE STATEMENT ████ -/
theorem proved : Rows.CrcNoughtsSaid := over
#print axioms proved
end Go.Proofs.Ytgefpeppjkggmaa.crcNoughts
