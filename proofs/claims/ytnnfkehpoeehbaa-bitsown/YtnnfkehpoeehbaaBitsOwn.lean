/-
  PROVED: for every []byte and byte, the law BitsOwn of package bits answers true (what was handed in, and answered, may be written over). No condition.
-/
import Derived.Test.YtnnfkehpoeehbaaRows
import Derived.Test.YtnnfkehpoeehbaaArg
import Derived.WalkKit
import Derived.ProofKit
import Derived.OpenShut
import Derived.ShutString
import Derived.ChangeOld
import Derived.Below
namespace Go.Proofs.Ytnnfkehpoeehbaa.bitsOwn
open Go.ChangeShapes Go.WideShapes Go.ChangeAt Go.RowKit
open Go.RowKit
open Go.ChangeMaps (open_string shut_string)
set_option linter.unusedVariables false

theorem own : ownKnob Try.prog.godebug = none := by kernel_rfl
theorem laidOut : laidOutB Try.prog = true := by kernel_rfl

/-- WHAT THE WALK IS TOLD OF A SLICE OF INTEGERS THAT CAME IN: it is nil; or it leads to a row of 'cap' cells, the numbers 'zs' (the first 'len' are its elements, the rest its spare room), each fitting its kind. -/
def IsRow (k : IntKind) (w : World) (a : Option Addr) (len cap : Nat) (zs : List Int) : Prop :=
  (a = none ∧ len = 0 ∧ cap = 0 ∧ zs = []) ∨
  ∃ x, a = some x ∧ len ≤ cap ∧ cap ≤ maxLen ∧ zs.length = cap ∧ (∀ i, i < zs.length → w.cell? (x.add i) = some (.int k (zs.getD i 0))) ∧ ∀ n ∈ zs, (Lit.int k n).wf = true

/-! ### STEP 1: THE WALK: the Go text returns true, AND WRITES NOTHING THAT WAS THERE: 'Below w.heap.size w w'' (Derived/Below.lean: '.refl', '.alloc', '.drew', '.setCell' at a new block, '.trans'). Open each 'IsRow' by 'rcases' AHEAD of 'go_enter'; part every test ahead of the walk. -/
set_option maxHeartbeats 2000000 in
theorem walk (a0 : Option Addr) (len0 cap0 : Nat) (z0 : List Int) (a1 : Int) (w : World) (w0 : IsRow .u8 w a0 len0 cap0 z0) (w1 : (Lit.int .u8 a1).wf = true) :
    Calls Try.prog 6 #[.slice a0 len0 cap0, .int .u8 a1] w fun e w' => e = .returned (.bool true) ∧ Below w.heap.size w w' := by
  obtain ⟨q, hq⟩ : ∃ q, Arg w a0 len0 cap0 q := by
    rcases w0 with ⟨rfl, rfl, rfl, rfl⟩ | ⟨x, rfl, hl, hm, hz, hc, hwz⟩
    · exact ⟨_, arg_none w⟩
    · exact ⟨_, arg_some hl hz hc hwz⟩
  clear w0 w1
  have HQ := Lib.hid hq; clear hq
  by_cases hbig : 40 < len0
  · go_enter Try.func6, Try.ntmps6
    go_wp2_with fail
    refine (five_any _).mono ?_; rintro e wA ⟨rfl, hbA⟩
    have HA := Lib.hid hbA; clear hbA
    go_wp2_with fail
    refine (five_any _).mono ?_; rintro e wB ⟨rfl, hbB⟩
    have HB := Lib.hid (HA.out.trans (hbB.mono HA.out.size)); clear hbB
    go_wp2_with fail
    go_ret
    exact ⟨rfl, HB.out⟩
  have hn40 : len0 ≤ 40 := by omega
  clear hbig
  go_enter Try.func6, Try.ntmps6
  go_wp2_with fail
  refine (five_any _).mono ?_; rintro e wA ⟨rfl, hbA⟩
  have HA := Lib.hid hbA; clear hbA
  go_wp2_with fail
  refine (join_arg wA a0 len0 cap0 q (HQ.out.below HA.out) (by omega)).mono ?_
  rintro e wB ⟨v1, rfl, ho1, hbB⟩
  obtain ⟨A1, c1, rfl, _⟩ := Rd.of_own ho1
  rw [bvals_length] at *
  have hlt1 := ho1.lt
  have HO1 := Lib.hid ho1; have HB := Lib.hid hbB; have HLT1 := Lib.hid hlt1
  clear ho1 hbB hlt1
  go_wp2_with fail
  refine (newReader_any wB _ q (by have := Rd.of_own HO1.out; exact this) (by rw [HQ.out.size]; omega)).mono ?_
  rintro e wC ⟨g, rfl, hg, hr, hbC⟩
  obtain ⟨vr, hrow, hown⟩ := hr
  have hsz := hrow.lt
  have ho1C : wC.ownsRow wA.heap.size 5 1 (.slice A1 q.length c1) q.length (bvals q) := (Kept.of_below (g := wC.heap.size) hbC).owns HO1.out fun k hk => ⟨(HLT1.out k hk).2, by have := (HLT1.out k hk).2; have := hbC.size; omega⟩
  have hBC : Below w.heap.size w wC := (HA.out.trans (HB.out.mono HA.out.size)).trans (hbC.mono (Nat.le_trans HA.out.size HB.out.size))
  have hsw : w.heap.size ≤ wA.heap.size := HA.out.size
  have hsB : wA.heap.size ≤ wB.heap.size := HB.out.size
  have hql : q.length = len0 := HQ.out.size
  have HG := Lib.hid hg; have HROW := Lib.hid hrow; have HOWN := Lib.hid hown; have HO1C := Lib.hid ho1C; have HBC := Lib.hid hBC; have HSW := Lib.hid hsw; have HSB := Lib.hid hsB; have HQL := Lib.hid hql; have HSZ := Lib.hid hsz
  have HSC := Lib.hid hbC.size
  clear hg hrow hown ho1C hBC hsw hsB hql hbC hsz
  have hqn : q.length ≤ 40 := by have := HQL.out; omega
  go_wp2_with fail
  go_loopw [7] (fun t wr => ∃ i : Nat, i ≤ q.length ∧ t = .int .i64 i ∧ Hid ((∃ xs, wr.ownsRow wA.heap.size 5 1 (.slice A1 q.length c1) q.length xs) ∧ wC.grownBy wr (Value.slice A1 q.length c1).ownBlock)) (fun t _ => q.length - (intOf t).toNat)
  case atStart => exact ⟨0, Nat.zero_le _, rfl, ⟨_, HO1C.out⟩, World.grownBy.refl _ _⟩
  case round =>
    obtain ⟨i, hi, rfl, HI⟩ := hrel
    by_cases hlt : i < q.length
    · obtain ⟨xs, hox⟩ := HI.out.1
      obtain ⟨r1, cap1, he⟩ : ∃ r cap, Value.slice A1 q.length c1 = .slice (some ⟨r, 0, none⟩) q.length cap := by
        rcases hox.2 with ⟨_, h⟩ | ⟨r, cap, _, h, _⟩
        · omega
        · exact ⟨r, cap, h⟩
      injection he with he1 he2 he3
      subst he1; subst he3
      obtain ⟨xv, hc⟩ : ∃ xv, wr.cell? ⟨r1, i, none⟩ = some xv := ⟨_, (hox.cellAt i (by omega)).trans (List.getElem?_eq_getElem (by have := hox.1; omega))⟩
      have hf := hox.frozenAt i
      have hst := hox.stored i (.int .u8 a1)
      have H3 : Hid ((∃ ys, (wr.setCell ⟨r1, i, none⟩ (.int .u8 a1)).ownsRow wA.heap.size 5 1 (.slice (some ⟨r1, 0, none⟩) q.length c1) q.length ys) ∧ wC.grownBy (wr.setCell ⟨r1, i, none⟩ (.int .u8 a1)) (Value.slice (some ⟨r1, 0, none⟩) q.length c1).ownBlock) := ⟨⟨_, hst.1⟩, HI.out.2.trans hst.2⟩
      clear hox hst
      go_wp2_with fail
      go_roundw
      case rel => exact ⟨i + 1, by omega, by go_num, H3⟩
      case measure => simp [intOf]; omega
    · have hgr := HI.out.2
      have hg1 : some g ≠ (Value.slice A1 q.length c1).ownBlock := fun e => by have := (HLT1.out g e.symm).2; have := HG.out; omega
      have hrow2 : Row wr g 61 #[vr, .int .i64 ((0 : Nat) : Int), .bool false] := HROW.out.grown hgr hg1
      have hown2 : wr.ownsRow wB.heap.size 5 1 vr q.length (bvals q) := HOWN.out.kept hgr (by
        cases hv : vr.ownBlock with
        | none => exact Or.inl rfl
        | some k => exact Or.inr fun e => by have := (HOWN.out.lt k hv).1; have := (HLT1.out k e.symm).2; omega)
      have hB2 : Below w.heap.size w wr := HBC.out.grown hgr (by have := HSW.out; have := HSB.out; have := HSC.out; omega) (fun k hk => by have := (HLT1.out k hk).1; have := HSW.out; omega)
      have hgw : g < wr.heap.size := hrow2.lt
      have hgB : wB.heap.size ≤ g := HG.out
      have hwB : w.heap.size ≤ g := by have := HSW.out; have := HSB.out; omega
      have hvB : ∀ k, vr.ownBlock = some k → k < wr.heap.size := fun k hk => (hown2.lt k hk).2
      have hr3 := Row.new wr 52 #[.slice none 0 0, .int .i64 0]
      have hrow3 := hrow2.alloc (.cells #[.slice none 0 0, .int .i64 0] 52)
      have hown3 := hown2.alloc (.cells #[.slice none 0 0, .int .i64 0] 52)
      have hB3 := hB2.alloc hB2.size (.cells #[.slice none 0 0, .int .i64 0] 52)
      have hs3 : wr.heap.size ≤ (wr.alloc (.cells #[.slice none 0 0, .int .i64 0] 52)).heap.size := by simp
      have H0 : Hid (Wr (wr.alloc (.cells #[.slice none 0 0, .int .i64 0] 52)) wr.heap.size wr.heap.size (upto q 0) ∧ Row (wr.alloc (.cells #[.slice none 0 0, .int .i64 0] 52)) g 61 #[vr, .int .i64 ((8 * 0 : Nat) : Int), .bool false] ∧ (wr.alloc (.cells #[.slice none 0 0, .int .i64 0] 52)).ownsRow wB.heap.size 5 1 vr q.length (bvals q) ∧ Below w.heap.size w (wr.alloc (.cells #[.slice none 0 0, .int .i64 0] 52)) ∧ wr.heap.size ≤ (wr.alloc (.cells #[.slice none 0 0, .int .i64 0] 52)).heap.size) :=
        ⟨by rw [show upto q 0 = [] from by simp [upto]]; exact ⟨_, hr3, World.ownsRow_nil _ _ _ _⟩, hrow3, hown3, hB3, hs3⟩
      have HVB := Lib.hid hvB
      clear hgr hg1 hrow2 hown2 hB2 hr3 hrow3 hown3 hB3 hs3 hvB HI HROW HOWN HBC HO1C HO1
      have HGW := Lib.hid hgw; have HWB := Lib.hid hwB
      clear hgw hwB hgB
      go_wp2_with fail
      generalize hwS : wr.alloc (.cells #[.slice none 0 0, .int .i64 0] 52) = wS at *
      clear hwS
      generalize wr.heap.size = g2 at *
      go_loopw [9] (fun t wr => ∃ i : Nat, i ≤ q.length ∧ t = .int .i64 i ∧ Hid (Wr wr g2 g2 (upto q i) ∧ Row wr g 61 #[vr, .int .i64 ((8 * i : Nat) : Int), .bool false] ∧ wr.ownsRow wB.heap.size 5 1 vr q.length (bvals q) ∧ Below w.heap.size w wr ∧ g2 ≤ wr.heap.size)) (fun t _ => q.length - (intOf t).toNat)
      case atStart => exact ⟨0, Nat.zero_le _, rfl, H0.out⟩
      case round =>
        obtain ⟨i, hi, rfl, HI⟩ := hrel
        by_cases hlt : i < len0
        · have hiq : i < q.length := by have := HQL.out; omega
          go_wp2_with fail
          obtain ⟨hw, hr, ho, hb, hs⟩ := HI.out
          with_reducible refine (get_keep wr _ g vr q (8 * i) false 8 hr ho HQ.out.small (by omega) (by omega) (by omega)).mono ?_
          rintro e w2 ⟨rfl, hr2, hk2⟩
          rw [show (min (max (8 : Int) 0) 64).toNat = 8 from by decide] at *
          rw [numTo_byte q HQ.out.small]
          generalize hy : q.getD i 0 = y
          have HY := Lib.hid hy; clear hy
          have hgne : g ≠ g2 := by have := HGW.out; omega
          have hw2 : Wr w2 g2 g2 (upto q i) := (hk2 wr.heap.size).wr hw (Nat.le_refl _) (fun e => hgne e.symm) hr (by decide)
          have ho2 := hk2.owns ho hr (by decide)
          have hb2 : Below w.heap.size w w2 := hb.trans ((hk2 w.heap.size).below HWB.out)
          have hs2 : g2 ≤ w2.heap.size := Nat.le_trans hs hk2.size
          have H2 : Hid (Wr w2 g2 g2 (upto q i) ∧ Row w2 g 61 #[vr, .int .i64 ((8 * i + 8 : Nat) : Int), .bool false] ∧ w2.ownsRow wB.heap.size 5 1 vr q.length (bvals q) ∧ Below w.heap.size w w2 ∧ g2 ≤ w2.heap.size) := ⟨hw2, hr2, ho2, hb2, hs2⟩
          clear hw hr ho hb hs hr2 hk2 hw2 ho2 hb2 hs2
          go_wp2_with fail
          with_reducible refine (put_some w2 g2 g2 (upto q i) y 8 H2.out.1 H2.out.2.2.2.2 (by rw [upto_length]; omega)).mono ?_
          rintro e w3 ⟨rfl, hw3, hk3⟩
          rw [show (min (max (8 : Int) 0) 64).toNat = 8 from by decide, ← HY.out, ← upto_succ] at hw3
          obtain ⟨_, hr2, ho2, hb2, hs2⟩ := H2.out
          have hr3 : Row w3 g 61 #[vr, .int .i64 ((8 * (i + 1) : Nat) : Int), .bool false] := hk3.row hr2 HGW.out hgne
          have ho3 : w3.ownsRow wB.heap.size 5 1 vr q.length (bvals q) := hk3.owns ho2 fun k hk => ⟨HVB.out k hk, fun e => by have := HVB.out k hk; omega⟩
          have hb3 : Below w.heap.size w w3 := hb2.trans ((hk3.mono (by have := HWB.out; have := HGW.out; omega)).below (by have := HWB.out; have := HGW.out; omega))
          have H3 : Hid (Wr w3 g2 g2 (upto q (i + 1)) ∧ Row w3 g 61 #[vr, .int .i64 ((8 * (i + 1) : Nat) : Int), .bool false] ∧ w3.ownsRow wB.heap.size 5 1 vr q.length (bvals q) ∧ Below w.heap.size w w3 ∧ g2 ≤ w3.heap.size) := ⟨hw3, hr3, ho3, hb3, Nat.le_trans hs2 hk3.size⟩
          clear hw3 hk3 hr2 ho2 hb2 hs2 hr3 ho3 hb3 H2
          go_wp2_with fail
          go_roundw
          case rel => exact ⟨i + 1, by omega, by go_num, H3⟩
          case measure => simp [intOf]; omega
        · obtain rfl : i = q.length := by have := HQL.out; omega
          obtain ⟨wL, hwL⟩ : ∃ x, x = wr := ⟨_, rfl⟩
          subst hwL
          go_wp2_with fail
          with_reducible refine (bytes_some wL g2 g2 _ HI.out.1 (by rw [upto_length]; omega)).mono ?_
          rintro e wD ⟨va, rfl, hoa, hba⟩
          rw [pack_upto q HQ.out.small] at hoa
          obtain ⟨A2, c2, rfl, _⟩ := Rd.of_own hoa
          rw [bvals_length] at *
          have HOA := Lib.hid hoa; have HBA := Lib.hid hba
          clear hoa hba
          go_wp2_with fail
          go_loopw [11] (fun t wr => ∃ i : Nat, i ≤ q.length ∧ t = .int .i64 i ∧ Hid ((∃ xs, wr.ownsRow wL.heap.size 5 1 (.slice A2 q.length c2) q.length xs) ∧ Below wL.heap.size wL wr)) (fun t _ => q.length - (intOf t).toNat)
          case atStart => exact ⟨0, Nat.zero_le _, rfl, ⟨_, HOA.out⟩, HBA.out⟩
          case round =>
            obtain ⟨j, hj, rfl, HJ⟩ := hrel
            by_cases hlt2 : j < q.length
            · obtain ⟨xs, hox⟩ := HJ.out.1
              obtain ⟨r2, cap2, he⟩ : ∃ r cap, Value.slice A2 q.length c2 = .slice (some ⟨r, 0, none⟩) q.length cap := by
                rcases hox.2 with ⟨_, h⟩ | ⟨r, cap, _, h, _⟩
                · omega
                · exact ⟨r, cap, h⟩
              injection he with he1 he2 he3
              subst he1; subst he3
              obtain ⟨xv, hc⟩ : ∃ xv, wr.cell? ⟨r2, j, none⟩ = some xv := ⟨_, (hox.cellAt j (by omega)).trans (List.getElem?_eq_getElem (by have := hox.1; omega))⟩
              have hf := hox.frozenAt j
              have hst := hox.stored j (.int .u8 a1)
              have H3 : Hid ((∃ ys, (wr.setCell ⟨r2, j, none⟩ (.int .u8 a1)).ownsRow wL.heap.size 5 1 (.slice (some ⟨r2, 0, none⟩) q.length c2) q.length ys) ∧ Below wL.heap.size wL (wr.setCell ⟨r2, j, none⟩ (.int .u8 a1))) := ⟨⟨_, hst.1⟩, HJ.out.2.setCell (hox.lt r2 rfl).1 _⟩
              clear hox hst
              go_wp2_with fail
              go_roundw
              case rel => exact ⟨j + 1, by omega, by go_num, H3⟩
              case measure => simp [intOf]; omega
            · obtain ⟨hw, hr, ho, hb, hs⟩ := HI.out
              have hw4 : Wr wr g2 g2 (upto q q.length) := Below.wr HJ.out.2 hw (Nat.le_refl _)
              have hr4 : Row wr g 61 #[vr, .int .i64 ((8 * q.length : Nat) : Int), .bool false] := (HJ.out.2.block g hr.lt).trans hr
              have ho4 : wr.ownsRow wB.heap.size 5 1 vr q.length (bvals q) := (Kept.of_below (g := wL.heap.size) HJ.out.2).owns ho fun k hk => ⟨(ho.lt k hk).2, by have := (ho.lt k hk).2; omega⟩
              have hb4 : Below w.heap.size w wr := hb.trans (HJ.out.2.mono hb.size)
              have H4 : Hid (Wr wr g2 g2 (upto q q.length) ∧ Row wr g 61 #[vr, .int .i64 ((8 * q.length : Nat) : Int), .bool false] ∧ wr.ownsRow wB.heap.size 5 1 vr q.length (bvals q) ∧ Below w.heap.size w wr) := ⟨hw4, hr4, ho4, hb4⟩
              clear hw hr ho hb hs hw4 hr4 ho4 hb4
              go_wp2_with fail
              with_reducible refine (bytes_some wr g2 g2 _ H4.out.1 (by rw [upto_length]; omega)).mono ?_
              rintro e w5 ⟨vb, rfl, hob, hbb⟩
              rw [pack_upto q HQ.out.small] at hob
              obtain ⟨_, hr4, ho4, hb4⟩ := H4.out
              have hr5 : Row w5 g 61 #[vr, .int .i64 ((8 * q.length : Nat) : Int), .bool false] := (hbb.block g hr4.lt).trans hr4
              have ho5 : w5.ownsRow wB.heap.size 5 1 vr q.length (bvals q) := (Kept.of_below (g := wr.heap.size) hbb).owns ho4 fun k hk => ⟨(ho4.lt k hk).2, by have := (ho4.lt k hk).2; omega⟩
              have hb5 : Below w.heap.size w w5 := hb4.trans (hbb.mono hb4.size)
              have hrp := (HQ.out.below hb5).rd
              have H5 : Hid (Rr w5 wB.heap.size g q (8 * q.length) false ∧ Below w.heap.size w w5 ∧ Rd w5 w5.heap.size vb (bvals q) ∧ Rd w5 w5.heap.size (.slice a0 len0 cap0) (bvals q)) := ⟨⟨vr, hr5, ho5⟩, hb5, Rd.of_own hob, hrp⟩
              clear hob hbb hr4 ho4 hb4 hr5 ho5 hb5 hrp H4 HJ HI H0
              go_wp2_with fail
              with_reducible refine (refBytes_true w5 _ vb _ q H5.out.2.2.1 H5.out.2.2.2 (by omega)).mono ?_
              rintro e w' ⟨rfl, k, rfl⟩
              go_wp2_with fail
              have hrk : Rr (w5.drewN k) wB.heap.size g q (8 * q.length) false := H5.out.1
              with_reducible refine (end_some (w5.drewN k) wB.heap.size g q (8 * q.length) false hrk HQ.out.small (by omega) (Nat.le_refl _)).mono ?_
              rintro e w' ⟨rfl, k2, rfl⟩
              rw [endB_all]
              clear hrk
              go_wp2_with fail
              go_ret
              exact ⟨rfl, below_drewN H5.out.2.1 (k + k2)⟩

/-! ### THE ROW's STEP: WRITTEN OUT: LEAVE IT -/
set_option maxRecDepth 100000 in
theorem lifted (os : Os) (started : os.Started) (H : Type) (enc : TypeId × Value → H) :
    ReturnsInHanded {} Try.checked os 6 .any (Rows.bitsOwnSpec.pre6 enc Try.prog Try.f6 Rows.bitsOwnRow.domain false) (Rows.bitsOwnSpec.post enc Try.prog Try.f6 false true false false) := by
  refine returnsInHanded_of_change (C := Try.checked) own started (by kernel_rfl) Try.func6
    (ChangeSpec.witness6 (enc := enc) (C := Try.checked) false ⟨#[], #[.slice none 0 0, .int .u8 0], []⟩ 8 (by kernel_rfl) (by kernel_rfl) (by kernel_rfl) (by kernel_rfl)) ?_
  intro W base args ds gs before hval0 hW hcnd _
  have hval : ∀ (j : Nat) t v, Try.f6.params[j]? = some t → args[j]? = some v → Value.okWide Try.prog W .any base t v := hval0
  have hW' := hW
  obtain ⟨p, q, hA0, hV, rfl, hfz, hnd⟩ := hW
  have hA : DataW.TrodAll enc Try.prog W 0 (fun _ => true) true Try.f6.params.toList args.toList ds p := hA0
  rw [Try.params6] at hA hval
  obtain ⟨v0, vs0, d0, ds0, p0, q0, hargs, rfl, rfl, h0, r0⟩ := trodAll_cons hA
  obtain ⟨v1, vs1, d1, ds1, p1, q1, rfl, rfl, rfl, h1, r1⟩ := trodAll_cons r0
  obtain ⟨rfl, rfl, rfl⟩ := trodAll_nil r1
  obtain rfl : args = #[v0, v1] := by cases args; simp_all
  obtain ⟨rfl, rfl⟩ := trodVars_none hV
  obtain ⟨a0, len0, cap0, rfl⟩ := okWide_slice Try.underlying31 (hval 0 31 v0 rfl rfl)
  have k0 := h0
  have lt0 : ∀ x ∈ p0, x.block < W.heap.size := by obtain ⟨m, hm⟩ := k0; exact DataW.trod_lt m _ _ _ hm
  obtain ⟨z0, w0⟩ : ∃ zs, IsRow .u8 W a0 len0 cap0 zs := by
    obtain ⟨fuel, hf⟩ := h0
    rcases open_ints Try.underlying31 Try.underlying5 (by kernel_rfl) hf with ⟨hcs, _⟩ | ⟨x, l, c, zs, hcs, _, hl, hm, hz, _, hcell, hwz⟩
    · simp [Value.cells] at hcs
      obtain ⟨rfl, rfl, rfl⟩ := hcs
      exact ⟨[], .inl ⟨rfl, rfl, rfl, rfl⟩⟩
    · simp [Value.cells] at hcs
      obtain ⟨rfl, rfl, rfl⟩ := hcs
      exact ⟨zs, .inr ⟨_, rfl, hl, hm, by simpa using hz, hcell, hwz⟩⟩
  obtain ⟨a1, rfl, rfl, rfl, w1⟩ := open_int Try.underlying5 (hval 1 5 v1 rfl rfl) h1
  clear hA0 hval0
  refine (walk a0 len0 cap0 z0 a1 W w0 w1).mono fun e W' ⟨he, bel⟩ => ?_
  subst he
  exact ⟨_, rfl, _, _, _, [], _, [], hW', trodAll_mk1 (shut_bool Try.underlying4 _), (trodAll_cons_mk (Below.trod laidOut (by kernel_rfl) (of_decide_eq_true (by kernel_rfl)) k0 bel lt0) (trodAll_cons_mk (shut_int Try.underlying5 w1) trodAll_mk0)), rfl, bel.frame _, fun h => by cases h⟩

theorem over : Rows.bitsOwnRow.holds Try.pinned (OpenSpec.ofChange Rows.bitsOwnSpec) :=
  OpenClaim.holds_of_wide 6 Try.f6 rfl rfl rfl rfl rfl rfl rfl ⟨rfl, rfl, rfl, rfl, rfl⟩ rfl rfl rfl rfl rfl (by kernel_rfl) Try.func6 (by kernel_rfl)
    (of_decide_eq_true (by kernel_rfl)) (by unfold Func.isWrapper; first | (rw [if_pos (by decide +kernel)]; kernel_rfl) | (rw [if_neg (by decide +kernel)]; exact ⟨rfl, rfl⟩))
    (fun os started H enc _ => lifted os started H enc)

/-- ████ THE STATEMENT ████ -/
theorem proved : Rows.BitsOwnSaid := over
#print axioms proved
end Go.Proofs.Ytnnfkehpoeehbaa.bitsOwn
