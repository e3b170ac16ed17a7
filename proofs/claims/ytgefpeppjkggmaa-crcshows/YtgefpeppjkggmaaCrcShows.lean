/-
  PROVED: for every []byte and two uint16, the law CrcShows of package crc answers true (one bit that is turned, or a run of up to sixteen, is shown). No condition.
-/
import Derived.Test.YtgefpeppjkggmaaRows
import Derived.Test.YtgefpeppjkggmaaArg
import Derived.WalkKit
import Derived.ProofKit
import Derived.OpenShut
import Derived.ShutString
import Derived.ChangeOld
import Derived.Below
import Derived.Test.YtgefpeppjkggmaaFlip
import Derived.StillTailTactics
import Derived.Deep.DeepCutAuto
import Derived.Test.YtgefpeppjkggmaaFlip
import Derived.StillTailTactics
import Derived.Deep.DeepCutAuto
namespace Go.Proofs.Ytgefpeppjkggmaa.crcShows
open Go.ChangeShapes Go.WideShapes Go.ChangeAt Go.RowKit
open Go.ChangeMaps (open_string shut_string)
set_option linter.unusedVariables false

theorem own : ownKnob Try.prog.godebug = none := by kernel_rfl
theorem laidOut : laidOutB Try.prog = true := by kernel_rfl

/-- WHAT THE WALK IS TOLD OF A SLICE OF INTEGERS THAT CAME IN: it is nil; or it leads to a row of 'cap' cells, the numbers 'zs' (the first 'len' are its elements, the rest its spare room), each fitting its kind. -/
def IsRow (k : IntKind) (w : World) (a : Option Addr) (len cap : Nat) (zs : List Int) : Prop :=
  (a = none ∧ len = 0 ∧ cap = 0 ∧ zs = []) ∨
  ∃ x, a = some x ∧ len ≤ cap ∧ cap ≤ maxLen ∧ zs.length = cap ∧ (∀ i, i < zs.length → w.cell? (x.add i) = some (.int k (zs.getD i 0))) ∧ ∀ n ∈ zs, (Lit.int k n).wf = true

/-! ### STEP 1: THE WALK: the Go text returns true, AND WRITES NOTHING THAT WAS THERE: 'Below w.heap.size w w'' (Derived/Below.lean: '.refl', '.alloc', '.drew', '.setCell' at a new block, '.trans'). Open each 'IsRow' by 'rcases' AHEAD of 'go_enter'; part every test ahead of the walk. -/
set_option maxHeartbeats 2000000 in
theorem walk (a0 : Option Addr) (len0 cap0 : Nat) (z0 : List Int) (a1 : Int) (a2 : Int) (w : World) (w0 : IsRow .u8 w a0 len0 cap0 z0) (w1 : (Lit.int .u16 a1).wf = true) (w2 : (Lit.int .u16 a2).wf = true) :
    Calls Try.prog 5 #[.slice a0 len0 cap0, .int .u16 a1, .int .u16 a2] w fun e w' => e = .returned (.bool true) ∧ Below w.heap.size w w' := by
  obtain ⟨q, hql, hsm, hrd⟩ := arg_any w0
  clear w0
  obtain ⟨at0, rfl, hat⟩ : ∃ x : Nat, a1 = x ∧ x < 65536 := by
    simp only [Lit.wf, Bool.and_eq_true, decide_eq_true_eq] at w1
    rw [show IntKind.u16.min = 0 from by decide, show IntKind.u16.max = 65535 from by decide] at w1
    exact ⟨a1.toNat, by omega, by omega⟩
  obtain ⟨r0, rfl, hr0⟩ : ∃ x : Nat, a2 = x ∧ x < 65536 := by
    simp only [Lit.wf, Bool.and_eq_true, decide_eq_true_eq] at w2
    rw [show IntKind.u16.min = 0 from by decide, show IntKind.u16.max = 65535 from by decide] at w2
    exact ⟨a2.toNat, by omega, by omega⟩
  clear w1 w2
  have HRD := Lib.hid hrd; have HSM := Lib.hid hsm; have HQL := Lib.hid hql
  clear hrd hsm hql
  by_cases hbig : 150 < len0
  · go_enter Try.func5, Try.ntmps5
    go_wp2_with fail
    refine (known_any _).mono ?_; rintro e wA ⟨rfl, hbA⟩
    have HA := Lib.hid hbA; clear hbA
    go_wp2_with fail
    refine (known_any _).mono ?_; rintro e wB ⟨rfl, hbB⟩
    have HB := Lib.hid (HA.out.trans (hbB.mono HA.out.size)); clear hbB
    go_wp2_with fail
    go_ret
    exact ⟨rfl, HB.out⟩
  have hn : len0 ≤ 150 := by omega
  clear hbig
  have hqn : q.length ≤ 150 := by have := HQL.out; omega
  go_enter Try.func5, Try.ntmps5
  go_wp2_with fail
  refine (known_any _).mono ?_; rintro e wA ⟨rfl, hbA⟩
  have HA := Lib.hid hbA; clear hbA
  have HRA := Lib.hid (HRD.out.up HA.out)
  go_wp2_with fail
  refine (close_any wA _ _ q HRA.out (Nat.le_refl _) HSM.out (by omega)).mono ?_
  rintro e wC ⟨v1, rfl, ho1, hbC⟩
  obtain ⟨A1, c1, rfl, _⟩ := Rd.of_own ho1
  rw [bvals_length] at *
  have hcl : (closed q).length = q.length + 2 := closed_length q
  have HO1 := Lib.hid ho1; have HBC := Lib.hid hbC
  clear ho1 hbC
  generalize hll : (closed q).length = l1 at *
  have HL1 := Lib.hid hll; have HCL := Lib.hid hcl
  have hl1 : l1 ≤ 152 := by omega
  have hl2 : 2 ≤ l1 := by omega
  clear hll hcl
  go_upto_if 25 with (fail)
  go_cut [2] (fun v wx => wC = wx ∧ ∃ r : Nat, r < 65536 ∧ Hid (r % 2 = 1) ∧ v = .int .u16 r)
  case first =>
    by_cases c : r0 % 2 = 1
    · have hd : ((r0 : Int) % 2 == 0) = false := by simp; omega
      have HC : Hid (r0 % 2 = 1) := c
      clear c
      go_wp2_with fail
      go_meet
      exact ⟨rfl, r0, hr0, HC, rfl⟩
    · have hd : ((r0 : Int) % 2 == 0) = true := by simp; omega
      have HC : Hid ((r0 + 1) % 2 = 1) := by show _ = _; omega
      have hlt : r0 + 1 < 65536 := by omega
      clear c
      go_wp2_with fail
      go_meet
      exact ⟨rfl, r0 + 1, hlt, HC, by go_num⟩
  case rest =>
    obtain ⟨rfl, r, hr, HOD, rfl⟩ := hcut
    have hz : ((8 : Int) * (l1 : Int) == 0) = false := by simp; omega
    obtain ⟨k, hk, hkl⟩ : ∃ k : Nat, (at0 : Int) % (8 * (l1 : Int)) = (k : Int) ∧ k < 8 * l1 := ⟨at0 % (8 * l1), by simp, Nat.mod_lt _ (by omega)⟩
    have HK := Lib.hid hk; clear hk
    have H0 : Hid (∃ l, Flipped (closed q) l k r 0 ∧ wC.ownsRow wA.heap.size 5 1 (.slice A1 l1 c1) l1 (bvals l) ∧ Below wA.heap.size wA wC) := ⟨_, Flipped.start (closed_small HSM.out) k r, HO1.out, HBC.out⟩
    go_wp2_with fail
    rw [HK.out]
    go_loopw [9] (fun t wr => ∃ i : Nat, i ≤ 16 ∧ t = .int .i64 i ∧ Hid (∃ l, Flipped (closed q) l k r i ∧ wr.ownsRow wA.heap.size 5 1 (.slice A1 l1 c1) l1 (bvals l) ∧ Below wA.heap.size wA wr)) (fun t _ => 16 - (intOf t).toNat)
    case atStart => exact ⟨0, Nat.zero_le _, rfl, H0⟩
    case round =>
      obtain ⟨i, hi, rfl, HI⟩ := hrel
      clear H0
      by_cases hlt : i < 16
      · have hbit := shr_bit_t r i
        have hbit2 := shr_bit r i
        cases hb : r.testBit i with
        | false =>
          rw [hb] at hbit hbit2
          have H2 : Hid (∃ l, Flipped (closed q) l k r (i + 1) ∧ wr.ownsRow wA.heap.size 5 1 (.slice A1 l1 c1) l1 (bvals l) ∧ Below wA.heap.size wA wr) := by
            obtain ⟨l, h1, h2, h3⟩ := HI.out
            exact ⟨l, h1.same (Or.inl hb), h2, h3⟩
          clear hb HI
          go_wp2
          go_roundw
          case rel => exact ⟨i + 1, by omega, by go_num, H2⟩
          case measure => simp [intOf]; omega
        | true =>
          rw [hb] at hbit hbit2
          by_cases hin : k + i < 8 * l1
          · have hd : decide ((k : Int) + (i : Int) < 8 * (l1 : Int)) = true := by simp; omega
            obtain ⟨l, hfl, hox, hbw⟩ := HI.out
            have hll : l.length = l1 := by rw [hfl.size, HL1.out]
            have hidx : (k + i) / 8 < l.length := by omega
            obtain ⟨r1, cap1, he⟩ : ∃ r cap, Value.slice A1 l1 c1 = .slice (some ⟨r, 0, none⟩) l1 cap := by
              rcases hox.2 with ⟨_, h⟩ | ⟨r, cap, _, h, _⟩
              · omega
              · exact ⟨r, cap, h⟩
            injection he with he1 he2 he3
            subst he1; subst he3
            have hc : wr.cell? ⟨r1, (k + i) / 8, none⟩ = some (.int .u8 (l[(k + i) / 8] : Int)) := (hox.cellAt _ (by omega)).trans (bvals_get l _ hidx)
            have hf := hox.frozenAt ((k + i) / 8)
            have hst := hox.stored ((k + i) / 8) (.int .u8 ((l[(k + i) / 8] ^^^ 2 ^ ((k + i) % 8) : Nat) : Int))
            rw [bvals_set] at hst
            have H2 : Hid (∃ l', Flipped (closed q) l' k r (i + 1) ∧ (wr.setCell ⟨r1, (k + i) / 8, none⟩ (.int .u8 ((l[(k + i) / 8] ^^^ 2 ^ ((k + i) % 8) : Nat) : Int))).ownsRow wA.heap.size 5 1 (.slice (some ⟨r1, 0, none⟩) l1 c1) l1 (bvals l') ∧ Below wA.heap.size wA (wr.setCell ⟨r1, (k + i) / 8, none⟩ (.int .u8 ((l[(k + i) / 8] ^^^ 2 ^ ((k + i) % 8) : Nat) : Int)))) :=
              ⟨_, hfl.turn hb hidx, hst.1, hbw.setCell (hox.lt r1 rfl).1 _⟩
            have hx : l[(k + i) / 8] < 256 := hfl.small _ (List.getElem_mem _)
            generalize l[(k + i) / 8] = x at *
            clear hb HI hfl hox hbw hst
            obtain ⟨j, hj⟩ : ∃ j, k + i = j := ⟨_, rfl⟩
            rw [hj] at H2 hc hf hidx
            have hjj : (k : Int) + (i : Int) = (j : Int) := by omega
            have hj8 : j < 1300 := by omega
            obtain ⟨a, ha⟩ : ∃ a, j / 8 = a := ⟨_, rfl⟩
            obtain ⟨b, hb⟩ : ∃ b, j % 8 = b := ⟨_, rfl⟩
            rw [ha] at H2 hc hf hidx
            rw [hb] at H2
            have hb8 : b < 8 := by omega
            have haw : IntKind.i64.wrap ((j : Int) / 8) = (a : Int) := by rw [IntKind.wrap_i64]; omega
            have hbw : (j : Int).tmod 8 = (b : Int) := by rw [Int.tmod_eq_emod_of_nonneg (by omega)]; omega
            have hal : a < l1 := by omega
            have hxor := xor_pow x b hx hb8
            generalize x ^^^ 2 ^ b = y at *
            clear hj ha hb
            go_wp2
            go_still_tail 10, (by kernel_rfl)
            change wpList _ _ _ _ _ wr.drew
            have hc2 : wr.drew.cell? ⟨r1, a, none⟩ = some (.int .u8 (x : Int)) := hc
            have hf2 : wr.drew.frozen? ⟨r1, a, none⟩ = false := hf
            have H3 : Hid (∃ l', Flipped (closed q) l' k r (i + 1) ∧ (wr.drew.setCell ⟨r1, a, none⟩ (.int .u8 (y : Int))).ownsRow wA.heap.size 5 1 (.slice (some ⟨r1, 0, none⟩) l1 c1) l1 (bvals l') ∧ Below wA.heap.size wA (wr.drew.setCell ⟨r1, a, none⟩ (.int .u8 (y : Int)))) := by
              obtain ⟨l', h1, h2, h3⟩ := H2.out
              exact ⟨l', h1, h2, ⟨h3.os, h3.tape, h3.output, h3.size, h3.block⟩⟩
            clear hc hf H2
            generalize wr.drew = wd at *
            go_wp2_with fail
            go_roundw
            case rel => exact ⟨i + 1, by omega, by go_num, H3⟩
            case measure => simp [intOf]; omega
          · have hd : decide ((k : Int) + (i : Int) < 8 * (l1 : Int)) = false := by simp; omega
            have H2 : Hid (∃ l, Flipped (closed q) l k r (i + 1) ∧ wr.ownsRow wA.heap.size 5 1 (.slice A1 l1 c1) l1 (bvals l) ∧ Below wA.heap.size wA wr) := by
              obtain ⟨l, h1, h2, h3⟩ := HI.out
              exact ⟨l, h1.same (Or.inr (by rw [HL1.out]; omega)), h2, h3⟩
            clear hb HI
            go_wp2
            go_roundw
            case rel => exact ⟨i + 1, by omega, by go_num, H2⟩
            case measure => simp [intOf]; omega
      · obtain ⟨l, hfl, hox, hbw⟩ := HI.out
        have hsh : sumOf (l.take (l.length - 2)) ≠ tailNum l := by
          have h16 : i = 16 := by omega
          rw [h16] at hfl
          exact hfl.shown hr HOD.out (by have := HCL.out; omega)
        have hll : l.length = l1 := by rw [hfl.size, HL1.out]
        have HSH := Lib.hid hsh; have HLL := Lib.hid hll; have HR := Lib.hid (Rd.of_own hox); have HSML := Lib.hid hfl.small
        have HBW := Lib.hid (HA.out.trans (hbw.mono HA.out.size))
        have hlen : l.length ≤ 10000000 ∧ 2 ≤ l.length := by omega
        have HLEN := Lib.hid hlen
        clear hsh hll hlen hfl hox hbw HI
        go_wp2_with fail
        refine (open_bad wr wr.heap.size _ l HR.out HSML.out HLEN.out.1 HLEN.out.2 HSH.out).mono ?_
        rintro e w' ⟨rfl, k2, rfl⟩
        have HF := Lib.hid (below_drewN HBW.out k2)
        go_wp2_with fail
        go_ret
        exact ⟨rfl, HF.out⟩

/-! ### THE ROW's STEP: WRITTEN OUT: LEAVE IT -/
set_option maxRecDepth 100000 in
theorem lifted (os : Os) (started : os.Started) (H : Type) (enc : TypeId × Value → H) :
    ReturnsInHanded {} Try.checked os 5 .any (Rows.crcShowsSpec.pre6 enc Try.prog Try.f5 Rows.crcShowsRow.domain false) (Rows.crcShowsSpec.post enc Try.prog Try.f5 false true false false) := by
  refine returnsInHanded_of_change (C := Try.checked) own started (by kernel_rfl) Try.func5
    (ChangeSpec.witness6 (enc := enc) (C := Try.checked) false ⟨#[], #[.slice none 0 0, .int .u16 0, .int .u16 0], []⟩ 8 (by kernel_rfl) (by kernel_rfl) (by kernel_rfl) (by kernel_rfl)) ?_
  intro W base args ds gs before hval0 hW hcnd _
  have hval : ∀ (j : Nat) t v, Try.f5.params[j]? = some t → args[j]? = some v → Value.okWide Try.prog W .any base t v := hval0
  have hW' := hW
  obtain ⟨p, q, hA0, hV, rfl, hfz, hnd⟩ := hW
  have hA : DataW.TrodAll enc Try.prog W 0 (fun _ => true) true Try.f5.params.toList args.toList ds p := hA0
  rw [Try.params5] at hA hval
  obtain ⟨v0, vs0, d0, ds0, p0, q0, hargs, rfl, rfl, h0, r0⟩ := trodAll_cons hA
  obtain ⟨v1, vs1, d1, ds1, p1, q1, rfl, rfl, rfl, h1, r1⟩ := trodAll_cons r0
  obtain ⟨v2, vs2, d2, ds2, p2, q2, rfl, rfl, rfl, h2, r2⟩ := trodAll_cons r1
  obtain ⟨rfl, rfl, rfl⟩ := trodAll_nil r2
  obtain rfl : args = #[v0, v1, v2] := by cases args; simp_all
  obtain ⟨rfl, rfl⟩ := trodVars_none hV
  obtain ⟨a0, len0, cap0, rfl⟩ := okWide_slice Try.underlying22 (hval 0 22 v0 rfl rfl)
  have k0 := h0
  have lt0 : ∀ x ∈ p0, x.block < W.heap.size := by obtain ⟨m, hm⟩ := k0; exact DataW.trod_lt m _ _ _ hm
  obtain ⟨z0, w0⟩ : ∃ zs, IsRow .u8 W a0 len0 cap0 zs := by
    obtain ⟨fuel, hf⟩ := h0
    rcases open_ints Try.underlying22 Try.underlying5 (by kernel_rfl) hf with ⟨hcs, _⟩ | ⟨x, l, c, zs, hcs, _, hl, hm, hz, _, hcell, hwz⟩
    · simp [Value.cells] at hcs
      obtain ⟨rfl, rfl, rfl⟩ := hcs
      exact ⟨[], .inl ⟨rfl, rfl, rfl, rfl⟩⟩
    · simp [Value.cells] at hcs
      obtain ⟨rfl, rfl, rfl⟩ := hcs
      exact ⟨zs, .inr ⟨_, rfl, hl, hm, by simpa using hz, hcell, hwz⟩⟩
  obtain ⟨a1, rfl, rfl, rfl, w1⟩ := open_int Try.underlying24 (hval 1 24 v1 rfl rfl) h1
  obtain ⟨a2, rfl, rfl, rfl, w2⟩ := open_int Try.underlying24 (hval 2 24 v2 rfl rfl) h2
  clear hA0 hval0
  refine (walk a0 len0 cap0 z0 a1 a2 W w0 w1 w2).mono fun e W' ⟨he, bel⟩ => ?_
  subst he
  exact ⟨_, rfl, _, _, _, [], _, [], hW', trodAll_mk1 (shut_bool Try.underlying4 _), (trodAll_cons_mk (Below.trod laidOut (by kernel_rfl) (of_decide_eq_true (by kernel_rfl)) k0 bel lt0) (trodAll_cons_mk (shut_int Try.underlying24 w1) (trodAll_cons_mk (shut_int Try.underlying24 w2) trodAll_mk0))), rfl, bel.frame _, fun h => by cases h⟩

theorem over : Rows.crcShowsRow.holds Try.pinned (OpenSpec.ofChange Rows.crcShowsSpec) :=
  OpenClaim.holds_of_wide 5 Try.f5 rfl rfl rfl rfl rfl rfl rfl ⟨rfl, rfl, rfl, rfl, rfl⟩ rfl rfl rfl rfl rfl (by kernel_rfl) Try.func5 (by kernel_rfl)
    (of_decide_eq_true (by kernel_rfl)) (by unfold Func.isWrapper; first | (rw [if_pos (by decide +kernel)]; kernel_rfl) | (rw [if_neg (by decide +kernel)]; exact ⟨rfl, rfl⟩))
    (fun os started H enc _ => lifted os started H enc)

/-- ████ THE STATEMENT ████ -/
theorem proved : Rows.CrcShowsSaid := over
#print axioms proved
end Go.Proofs.Ytgefpeppjkggmaa.crcShows
