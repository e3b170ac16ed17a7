/-
  PROVED: for every []byte and byte, the law CrcOwn of package crc answers true (what was handed in stays; what was answered may be written over). No condition.
-/
import Derived.Test.YtgefpeppjkggmaaRows
import Derived.Test.YtgefpeppjkggmaaArg
import Derived.WalkKit
import Derived.ProofKit
import Derived.OpenShut
import Derived.ShutString
import Derived.ChangeOld
import Derived.Below
namespace Go.Proofs.Ytgefpeppjkggmaa.crcOwn
open Go.ChangeShapes Go.WideShapes Go.ChangeAt Go.RowKit
open Go.ChangeMaps (open_string shut_string)
set_option linter.unusedVariables false

theorem own : ownKnob Try.prog.godebug = none := by kernel_rfl
theorem laidOut : laidOutB Try.prog = true := by kernel_rfl

/-- WHAT THE WALK IS TOLD OF A SLICE OF INTEGERS THAT CAME IN: it is nil; or it leads to a row of 'cap' cells, the numbers 'zs' (the first 'len' are its elements, the rest its spare room), each fitting its kind. -/
def IsRow (k : IntKind) (w : World) (a : Option Addr) (len cap : Nat) (zs : List Int) : Prop :=
  (a = none ∧ len = 0 ∧ cap = 0 ∧ zs = []) ∨
  ∃ x, a = some x ∧ len ≤ cap ∧ cap ≤ maxLen ∧ zs.length = cap ∧ (∀ i, i < zs.length → w.cell? (x.add i) = some (.int k (zs.getD i 0))) ∧ ∀ n ∈ zs, (Lit.int k n).wf = true

/-! ### STEP 1: THE WALK: the Go text returns true, AND WRITES NOTHING THAT WAS THERE: 'Below w.heap.size w w'' (Derived/Below.lean: '.refl', '.alloc', '.drew', '.setCell' at a new block, '.trans'). Open each 'IsRow' by 'rcases' AHEAD of 'go_enter'; part every test ahead of the walk. -/
set_option maxHeartbeats 2000000 in
theorem walk (a0 : Option Addr) (len0 cap0 : Nat) (z0 : List Int) (a1 : Int) (w : World) (w0 : IsRow .u8 w a0 len0 cap0 z0) (w1 : (Lit.int .u8 a1).wf = true) :
    Calls Try.prog 6 #[.slice a0 len0 cap0, .int .u8 a1] w fun e w' => e = .returned (.bool true) ∧ Below w.heap.size w w' := by
  obtain ⟨q, hql, hsm, hrd⟩ := arg_any w0
  clear w0 w1
  have HRD := Lib.hid hrd; have HSM := Lib.hid hsm; have HQL := Lib.hid hql
  clear hrd hsm hql
  by_cases hbig : 100 < len0
  · go_enter Try.func6, Try.ntmps6
    go_wp2_with fail
    refine (known_any _).mono ?_; rintro e wA ⟨rfl, hbA⟩
    have HA := Lib.hid hbA; clear hbA
    go_wp2_with fail
    refine (known_any _).mono ?_; rintro e wB ⟨rfl, hbB⟩
    have HB := Lib.hid (HA.out.trans (hbB.mono HA.out.size)); clear hbB
    go_wp2_with fail
    go_ret
    exact ⟨rfl, HB.out⟩
  have hn : len0 ≤ 100 := by omega
  clear hbig
  have hqn : q.length ≤ 100 := by have := HQL.out; omega
  go_enter Try.func6, Try.ntmps6
  go_wp2_with fail
  refine (known_any _).mono ?_; rintro e wA ⟨rfl, hbA⟩
  have HA := Lib.hid hbA; clear hbA
  have HRA := Lib.hid (HRD.out.up HA.out)
  go_wp2_with fail
  refine (join_any wA wA.heap.size _ _ q [] HRA.out (Rd.empty _ _) (Nat.le_refl _) (by omega) (by simp)).mono ?_
  rintro e wB ⟨v0, rfl, ho0, hbB⟩
  rw [List.append_nil] at ho0
  have HB := Lib.hid (HA.out.trans (hbB.mono HA.out.size))
  have HR0 := Lib.hid (Rd.of_own ho0)
  have HRB := Lib.hid (HRD.out.up HB.out)
  clear ho0 hbB
  go_wp2_with fail
  refine (close_any wB _ _ q HRB.out (Nat.le_refl _) HSM.out (by omega)).mono ?_
  rintro e wC ⟨v1, rfl, ho1, hbC⟩
  obtain ⟨A1, c1, rfl, _⟩ := Rd.of_own ho1
  rw [bvals_length] at *
  have HO1 := Lib.hid ho1; have HBC := Lib.hid hbC
  have HLT1 := Lib.hid ho1.lt
  have HR1 := Lib.hid (Rd.of_own ho1)
  clear ho1 hbC
  go_wp2_with fail
  refine (open_closed wC wC.heap.size _ q (by have := HR1.out; exact this) (Nat.le_refl _) HSM.out (by omega)).mono ?_
  rintro e wD ⟨v2, rfl, ho2, hbD⟩
  obtain ⟨A2, c2, rfl, _⟩ := Rd.of_own ho2
  rw [bvals_length] at *
  have H0 : Hid ((∃ xs, wD.ownsRow wC.heap.size 5 1 (.slice A2 q.length c2) q.length xs) ∧ Below wC.heap.size wC wD) := ⟨⟨_, ho2⟩, hbD⟩
  clear ho2 hbD
  have hcl : (closed q).length = q.length + 2 := closed_length q
  generalize hll : (closed q).length = l1 at *
  have HL1 := Lib.hid hll; have HCL := Lib.hid hcl
  have hl1 : l1 ≤ 102 := by omega
  clear hll hcl
  go_wp2_with fail
  go_loopw [9] (fun t wr => ∃ i : Nat, i ≤ q.length ∧ t = .int .i64 i ∧ Hid ((∃ xs, wr.ownsRow wC.heap.size 5 1 (.slice A2 q.length c2) q.length xs) ∧ Below wC.heap.size wC wr)) (fun t _ => q.length - (intOf t).toNat)
  case atStart => exact ⟨0, Nat.zero_le _, rfl, H0⟩
  case round =>
    obtain ⟨i, hi, rfl, HI⟩ := hrel
    clear H0
    by_cases hlt : i < q.length
    · obtain ⟨xs, hox⟩ := HI.out.1
      obtain ⟨r2, cap2, he⟩ : ∃ r cap, Value.slice A2 q.length c2 = .slice (some ⟨r, 0, none⟩) q.length cap := by
        rcases hox.2 with ⟨_, h⟩ | ⟨r, cap, _, h, _⟩
        · omega
        · exact ⟨r, cap, h⟩
      injection he with he1 he2 he3
      subst he1; subst he3
      obtain ⟨xv, hc⟩ : ∃ xv, wr.cell? ⟨r2, i, none⟩ = some xv := ⟨_, (hox.cellAt i (by omega)).trans (List.getElem?_eq_getElem (by have := hox.1; omega))⟩
      have hf := hox.frozenAt i
      have hst := hox.stored i (.int .u8 a1)
      have H3 : Hid ((∃ ys, (wr.setCell ⟨r2, i, none⟩ (.int .u8 a1)).ownsRow wC.heap.size 5 1 (.slice (some ⟨r2, 0, none⟩) q.length c2) q.length ys) ∧ Below wC.heap.size wC (wr.setCell ⟨r2, i, none⟩ (.int .u8 a1))) := ⟨⟨_, hst.1⟩, HI.out.2.setCell (hox.lt r2 rfl).1 _⟩
      clear hox hst
      go_wp2_with fail
      go_roundw
      case rel => exact ⟨i + 1, by omega, by go_num, H3⟩
      case measure => simp [intOf]; omega
    · obtain ⟨wL, hwL⟩ : ∃ x, x = wr := ⟨_, rfl⟩
      subst hwL
      have HBL := Lib.hid HI.out.2
      clear HI
      have HR1L := Lib.hid (HR1.out.up HBL.out)
      go_wp2_with fail
      refine (open_closed wL wL.heap.size _ q (by have := HR1L.out; exact this) (Nat.le_refl _) HSM.out (by omega)).mono ?_
      rintro e wE ⟨v3, rfl, ho3, hbE⟩
      have HBE := Lib.hid (HBL.out.trans (hbE.mono HBL.out.size))
      have ho1E : wE.ownsRow wB.heap.size 5 1 (.slice A1 l1 c1) l1 (bvals (closed q)) := (Kept.of_below (g := wC.heap.size) HBE.out).owns HO1.out fun k hk => ⟨(HLT1.out k hk).2, by have := (HLT1.out k hk).2; omega⟩
      have HO3 := Lib.hid ho3
      have HLE := Lib.hid HBL.out.size
      have H0 : Hid ((∃ xs, wE.ownsRow wB.heap.size 5 1 (.slice A1 l1 c1) l1 xs) ∧ wE.grownBy wE (Value.slice A1 l1 c1).ownBlock) := ⟨⟨_, ho1E⟩, World.grownBy.refl _ _⟩
      clear ho3 hbE ho1E
      go_wp2_with fail
      go_loopw [12] (fun t wr => ∃ i : Nat, i ≤ l1 ∧ t = .int .i64 i ∧ Hid ((∃ xs, wr.ownsRow wB.heap.size 5 1 (.slice A1 l1 c1) l1 xs) ∧ wE.grownBy wr (Value.slice A1 l1 c1).ownBlock)) (fun t _ => l1 - (intOf t).toNat)
      case atStart => exact ⟨0, Nat.zero_le _, rfl, H0⟩
      case round =>
        obtain ⟨j, hj, rfl, HJ⟩ := hrel
        clear H0
        by_cases hlt2 : j < l1
        · obtain ⟨xs, hox⟩ := HJ.out.1
          obtain ⟨r1, cap1, he⟩ : ∃ r cap, Value.slice A1 l1 c1 = .slice (some ⟨r, 0, none⟩) l1 cap := by
            rcases hox.2 with ⟨_, h⟩ | ⟨r, cap, _, h, _⟩
            · omega
            · exact ⟨r, cap, h⟩
          injection he with he1 he2 he3
          subst he1; subst he3
          obtain ⟨xv, hc⟩ : ∃ xv, wr.cell? ⟨r1, j, none⟩ = some xv := ⟨_, (hox.cellAt j (by omega)).trans (List.getElem?_eq_getElem (by have := hox.1; omega))⟩
          have hf := hox.frozenAt j
          have hst := hox.stored j (.int .u8 a1)
          have H3 : Hid ((∃ ys, (wr.setCell ⟨r1, j, none⟩ (.int .u8 a1)).ownsRow wB.heap.size 5 1 (.slice (some ⟨r1, 0, none⟩) l1 c1) l1 ys) ∧ wE.grownBy (wr.setCell ⟨r1, j, none⟩ (.int .u8 a1)) (Value.slice (some ⟨r1, 0, none⟩) l1 c1).ownBlock) := ⟨⟨_, hst.1⟩, HJ.out.2.trans hst.2⟩
          clear hox hst
          go_wp2_with fail
          go_roundw
          case rel => exact ⟨j + 1, by omega, by go_num, H3⟩
          case measure => simp [intOf]; omega
        · have hgr := HJ.out.2
          have hbl : ∀ k, (Value.slice A1 l1 c1).ownBlock = some k → wB.heap.size ≤ k ∧ k < wC.heap.size := HLT1.out
          have h3 : wr.ownsRow wL.heap.size 5 1 v3 q.length (bvals q) := HO3.out.kept hgr (by
            cases hv : v3.ownBlock with
            | none => exact Or.inl rfl
            | some k => exact Or.inr fun e => by have := (HO3.out.lt k hv).1; have := (hbl k e.symm).2; have := HLE.out; omega)
          have hBB : Below wB.heap.size wB wE := HBC.out.trans (HBE.out.mono HBC.out.size)
          have hBr : Below wB.heap.size wB wr := hBB.grown hgr hBB.size (fun k hk => (hbl k hk).1)
          have h0 := HR0.out.up hBr
          have hall : Below w.heap.size w wr := HB.out.trans (hBr.mono HB.out.size)
          have hp := HRD.out.up hall
          have H3 := Lib.hid (Rd.of_own h3); have HR0r := Lib.hid h0; have HALL := Lib.hid hall; have HP := Lib.hid hp
          clear hgr hbl h3 hBB hBr h0 hall hp HJ
          go_wp2_with fail
          refine (refBytes_true wr wr.heap.size v3 v0 q H3.out HR0r.out (by omega)).mono ?_
          rintro e w' ⟨rfl, k, rfl⟩
          have h1 : Rd (wr.drewN k) wr.heap.size (.slice a0 len0 cap0) (bvals q) := HP.out
          have h2 : Rd (wr.drewN k) wr.heap.size v0 (bvals q) := HR0r.out
          have HP2 := Lib.hid h1; have HR2 := Lib.hid h2
          clear h1 h2
          go_wp2_with fail
          refine (refBytes_true (wr.drewN k) wr.heap.size _ v0 q HP2.out HR2.out (by omega)).mono ?_
          rintro e w' ⟨rfl, k2, rfl⟩
          have HF := Lib.hid (below_drewN HALL.out (k + k2))
          go_wp2_with fail
          go_ret
          exact ⟨rfl, HF.out⟩

/-! ### THE ROW's STEP: WRITTEN OUT: LEAVE IT -/
set_option maxRecDepth 100000 in
theorem lifted (os : Os) (started : os.Started) (H : Type) (enc : TypeId × Value → H) :
    ReturnsInHanded {} Try.checked os 6 .any (Rows.crcOwnSpec.pre6 enc Try.prog Try.f6 Rows.crcOwnRow.domain false) (Rows.crcOwnSpec.post enc Try.prog Try.f6 false true false false) := by
  refine returnsInHanded_of_change (C := Try.checked) own started (by kernel_rfl) Try.func6
    (ChangeSpec.witness6 (enc := enc) (C := Try.checked) false ⟨#[], #[.slice none 0 0, .int .u8 0], []⟩ 8 (by kernel_rfl) (by kernel_rfl) (by kernel_rfl) (by kernel_rfl)) ?_
  intro W base args ds gs before hval0 hW hcnd _
  have hval : ∀ (j : Nat) t v, Try.f6.params[j]? = some t → args[j]? = some v → Value.okWide Try.prog W .any base t v := hval0
  have hW' := hW
  obtain ⟨p, q, hA0, hV, rfl, hfz, hnd⟩ := hW
  have hA : DataW.TrodAll enc Try.prog W 0 (fun _ => true) true Try.f6.params.toList args.toList ds p := hA0
  rw [Try.params6] at hA hval
  obtain ⟨v0, vs0, d0, ds0, p0, q0, hargs, rfl, rfl, h0, r0⟩ := trodAll_cons hA
  obtain ⟨v1, vs1, d1, ds1, p1, q1, rfl, rfl, rfl, h1, r1⟩ := trodAll_cons r0
  obtain ⟨rfl, rfl, rfl⟩ := trodAll_nil r1
  obtain rfl : args = #[v0, v1] := by cases args; simp_all
  obtain ⟨rfl, rfl⟩ := trodVars_none hV
  obtain ⟨a0, len0, cap0, rfl⟩ := okWide_slice Try.underlying22 (hval 0 22 v0 rfl rfl)
  have k0 := h0
  have lt0 : ∀ x ∈ p0, x.block < W.heap.size := by obtain ⟨m, hm⟩ := k0; exact DataW.trod_lt m _ _ _ hm
  obtain ⟨z0, w0⟩ : ∃ zs, IsRow .u8 W a0 len0 cap0 zs := by
    obtain ⟨fuel, hf⟩ := h0
    rcases open_ints Try.underlying22 Try.underlying5 (by kernel_rfl) hf with ⟨hcs, _⟩ | ⟨x, l, c, zs, hcs, _, hl, hm, hz, _, hcell, hwz⟩
    · simp [Value.cells] at hcs
      obtain ⟨rfl, rfl, rfl⟩ := hcs
      exact ⟨[], .inl ⟨rfl, rfl, rfl, rfl⟩⟩
    · simp [Value.cells] at hcs
      obtain ⟨rfl, rfl, rfl⟩ := hcs
      exact ⟨zs, .inr ⟨_, rfl, hl, hm, by simpa using hz, hcell, hwz⟩⟩
  obtain ⟨a1, rfl, rfl, rfl, w1⟩ := open_int Try.underlying5 (hval 1 5 v1 rfl rfl) h1
  clear hA0 hval0
  refine (walk a0 len0 cap0 z0 a1 W w0 w1).mono fun e W' ⟨he, bel⟩ => ?_
  subst he
  exact ⟨_, rfl, _, _, _, [], _, [], hW', trodAll_mk1 (shut_bool Try.underlying4 _), (trodAll_cons_mk (Below.trod laidOut (by kernel_rfl) (of_decide_eq_true (by kernel_rfl)) k0 bel lt0) (trodAll_cons_mk (shut_int Try.underlying5 w1) trodAll_mk0)), rfl, bel.frame _, fun h => by cases h⟩

theorem over : Rows.crcOwnRow.holds Try.pinned (OpenSpec.ofChange Rows.crcOwnSpec) :=
  OpenClaim.holds_of_wide 6 Try.f6 rfl rfl rfl rfl rfl rfl rfl ⟨rfl, rfl, rfl, rfl, rfl⟩ rfl rfl rfl rfl rfl (by kernel_rfl) Try.func6 (by kernel_rfl)
    (of_decide_eq_true (by kernel_rfl)) (by unfold Func.isWrapper; first | (rw [if_pos (by decide +kernel)]; kernel_rfl) | (rw [if_neg (by decide +kernel)]; exact ⟨rfl, rfl⟩))
    (fun os started H enc _ => lifted os started H enc)

/-- ████ THE STATEMENT ████ -/
theorem proved : Rows.CrcOwnSaid := over
#print axioms proved
end Go.Proofs.Ytgefpeppjkggmaa.crcOwn
