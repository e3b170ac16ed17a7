/-
  PROVED: for every []byte and []int8, the law BitsReads of package bits answers true (any bytes, read in any widths: what is told, what is left, whether it has failed). No condition.
-/
import Derived.Test.YtnnfkehpoeehbaaRows
import Derived.Test.YtnnfkehpoeehbaaBoth
import Derived.Deep.RegionHeld3
import Derived.WalkKit
import Derived.ProofKit
import Derived.OpenShut
import Derived.ShutString
import Derived.ChangeOld
import Derived.Below
namespace Go.Proofs.Ytnnfkehpoeehbaa.bitsReads
open Go.ChangeShapes Go.WideShapes Go.ChangeAt Go.RowKit
open Go.RowKit
open Go.ChangeMaps (open_string shut_string)
set_option linter.unusedVariables false

theorem own : ownKnob Try.prog.godebug = none := by kernel_rfl
theorem laidOut : laidOutB Try.prog = true := by kernel_rfl

/-- WHAT THE WALK IS TOLD OF A SLICE OF INTEGERS THAT CAME IN: it is nil; or it leads to a row of 'cap' cells, the numbers 'zs' (the first 'len' are its elements, the rest its spare room), each fitting its kind. -/
def IsRow (k : IntKind) (w : World) (a : Option Addr) (len cap : Nat) (zs : List Int) : Prop :=
  (a = none ∧ len = 0 ∧ cap = 0 ∧ zs = []) ∨
  ∃ x, a = some x ∧ len ≤ cap ∧ cap ≤ maxLen ∧ zs.length = cap ∧ (∀ i, i < zs.length → w.cell? (x.add i) = some (.int k (zs.getD i 0))) ∧ ∀ n ∈ zs, (Lit.int k n).wf = true

/-! ### STEP 1: THE WALK: the Go text returns true, AND WRITES NOTHING THAT WAS THERE: 'Below w.heap.size w w'' (Derived/Below.lean: '.refl', '.alloc', '.drew', '.setCell' at a new block, '.trans'). Open each 'IsRow' by 'rcases' AHEAD of 'go_enter'; part every test ahead of the walk. -/
theorem ok_quiet {w : World} {B g : Nat} {q : List Nat} {rd : Nat} {fl : Bool} (h : Rr w B g q rd fl) : Calls Try.prog 17 #[.pointer (some ⟨g, 0, none⟩)] w fun e w' => e = .returned (.bool (!fl)) ∧ w' = w :=
  (ok_some w B g q rd fl h).mono fun _ _ ⟨he, hw⟩ => ⟨he, hw.symm⟩

theorem left_quiet {w : World} {B g : Nat} {q : List Nat} {rd : Nat} {fl : Bool} (L : Nat) (h : Rr w B g q rd fl) (hf : Fin q rd fl) (hL : (rem q rd).length = L) : Calls Try.prog 22 #[.pointer (some ⟨g, 0, none⟩)] w fun e w' => e = .returned (.int .i64 (L : Int)) ∧ ∃ n, w' = w.drewN n :=
  (left_some w B g q rd fl h (by have := hf.2.1; omega) hf.1).mono fun _ _ ⟨he, hw⟩ => ⟨by rw [he, ← hL, rem_length], hw⟩

theorem end_quiet {w : World} {B g : Nat} {q : List Nat} {rd : Nat} {fl : Bool} (E : Bool) (h : Rr w B g q rd fl) (hf : Fin q rd fl) (hE : endB q rd fl = E) : Calls Try.prog 18 #[.pointer (some ⟨g, 0, none⟩)] w fun e w' => e = .returned (.bool E) ∧ ∃ n, w' = w.drewN n :=
  (end_some w B g q rd fl h hf.2.2.1 (by have := hf.2.1; omega) hf.1).mono fun _ _ ⟨he, hw⟩ => ⟨by rw [he, hE], hw⟩

theorem inEnd_quiet {w : World} {b0 g : Nat} {q : List Nat} {rd : Nat} {fl : Bool} (E : Bool) (h : InS w b0 g (rem q rd) fl) (hf : Fin q rd fl) (hE : endB q rd fl = E) : Calls Try.prog 23 #[.pointer (some ⟨g, 0, none⟩)] w fun e w' => e = .returned (.bool E) ∧ w' = w :=
  (inEnd_any w b0 g (rem q rd) fl h (by rw [rem_length]; have := hf.2.1; omega)).mono fun _ _ ⟨he, hw⟩ => ⟨by rw [he, endL_rem, hE], hw⟩

set_option maxHeartbeats 4000000 in
theorem walk (a0 : Option Addr) (len0 cap0 : Nat) (z0 : List Int) (a1 : Option Addr) (len1 cap1 : Nat) (z1 : List Int) (w : World) (w0 : IsRow .u8 w a0 len0 cap0 z0) (w1 : IsRow .i8 w a1 len1 cap1 z1) :
    Calls Try.prog 4 #[.slice a0 len0 cap0, .slice a1 len1 cap1] w fun e w' => e = .returned (.bool true) ∧ Below w.heap.size w w' := by
  obtain ⟨q, hq⟩ : ∃ q, Arg w a0 len0 cap0 q := by
    rcases w0 with ⟨rfl, rfl, rfl, rfl⟩ | ⟨x, rfl, hl, hm, hz, hc, hwz⟩
    · exact ⟨_, arg_none w⟩
    · exact ⟨_, arg_some hl hz hc hwz⟩
  have hhow : 0 < len1 → ∃ b o, a1 = some ⟨b, o, none⟩ ∧ b < w.heap.size ∧ ∀ j, j < len1 → ∃ x : Int, w.cell? ⟨b, o + j, none⟩ = some (.int .i8 x) ∧ -128 ≤ x ∧ x ≤ 127 := by
    intro hp
    rcases w1 with ⟨rfl, rfl, rfl, rfl⟩ | ⟨x, rfl, hl, hm, hz, hc, hwz⟩
    · omega
    · obtain ⟨b, o, rfl, hc'⟩ := ints_at hc (by omega)
      refine ⟨b, o, rfl, cell_lt (hc' 0 (by omega)), fun j hj => ⟨_, hc' j (by omega), ?_⟩⟩
      have e : z1.getD j 0 = z1[j]'(by omega) := by simp [List.getD, show j < z1.length by omega]
      have hw := hwz (z1[j]'(by omega)) (List.getElem_mem _)
      rw [e]
      simp only [Lit.wf, Bool.and_eq_true, decide_eq_true_eq] at hw
      rw [show IntKind.i8.min = -128 from by decide, show IntKind.i8.max = 127 from by decide] at hw
      exact hw
  clear w0 w1
  have HQ := Lib.hid hq; have HH := Lib.hid hhow
  clear hq hhow
  by_cases hbig : 60 < len0
  · go_enter Try.func4, Try.ntmps4
    go_wp2_with fail
    refine (five_any _).mono ?_; rintro e wA ⟨rfl, hbA⟩
    have HA := Lib.hid hbA; clear hbA
    go_wp2_with fail
    refine (five_any _).mono ?_; rintro e wB ⟨rfl, hbB⟩
    have HB := Lib.hid (HA.out.trans (hbB.mono HA.out.size)); clear hbB
    go_wp2_with fail
    go_ret
    exact ⟨rfl, HB.out⟩
  by_cases hbig2 : 60 < len1
  · go_enter Try.func4, Try.ntmps4
    go_wp2_with fail
    refine (five_any _).mono ?_; rintro e wA ⟨rfl, hbA⟩
    have HA := Lib.hid hbA; clear hbA
    go_wp2_with fail
    refine (five_any _).mono ?_; rintro e wB ⟨rfl, hbB⟩
    have HB := Lib.hid (HA.out.trans (hbB.mono HA.out.size)); clear hbB
    go_wp2_with fail
    go_ret
    exact ⟨rfl, HB.out⟩
  have hl0 : len0 ≤ 60 := by omega
  have hl1 : len1 ≤ 60 := by omega
  clear hbig hbig2
  go_enter Try.func4, Try.ntmps4
  go_wp2_with fail
  refine (five_any _).mono ?_; rintro e wA ⟨rfl, hbA⟩
  have HA := Lib.hid hbA; clear hbA
  go_wp2_with fail
  have hql : q.length ≤ 60 := by have := HQ.out.size; omega
  with_reducible refine (newReader_any wA _ q (HQ.out.below HA.out).rd (by omega)).mono ?_
  rintro e wB ⟨g1, rfl, hg1, hrB, hbB⟩
  have hargB := (HQ.out.below (HA.out.trans (hbB.mono HA.out.size))).rd
  have HARGB := Lib.hid hargB
  have HG1 := Lib.hid hg1; have HRB := Lib.hid hrB; have HBB := Lib.hid (HA.out.trans (hbB.mono HA.out.size))
  clear hg1 hrB hbB hargB
  go_wp2_with fail
  with_reducible refine (of_any wB _ q HARGB.out hql).mono ?_
  rintro e wC ⟨vb, rfl, hoC, hbC⟩
  obtain ⟨A2, c2, hv2, _⟩ := Rd.of_own hoC
  subst hv2
  rw [cvals_length] at *
  have hlc2 : (upto q q.length).length ≤ c2 := by
    rcases hoC.2 with ⟨h, h'⟩ | ⟨r, cap, _, h, _, _, h', _⟩
    · injection h with _ h1 h2; omega
    · injection h with _ _ h2; omega
  have hrC : Rr wC wA.heap.size g1 q 0 false := by
    obtain ⟨v, r, o⟩ := HRB.out
    exact ⟨v, (hbC.block g1 r.lt).trans r, (Kept.of_below (g := wB.heap.size) hbC).owns o fun k hk => ⟨(o.lt k hk).2, by have := (o.lt k hk).2; omega⟩⟩
  have hg1C : g1 < wC.heap.size := by obtain ⟨v, r, _⟩ := hrC; exact r.lt
  obtain ⟨b0, hb01, hb03, hcl⟩ : ∃ b0, b0 ≠ g1 ∧ b0 ≠ wC.heap.size ∧ (0 < (upto q q.length).length → ∃ o, A2 = some ⟨b0, o, none⟩ ∧ ∀ j (h : j < (upto q q.length).length), wC.cell? ⟨b0, o + j, none⟩ = some (.bool (upto q q.length)[j])) := by
    by_cases hz : 0 < (upto q q.length).length
    · obtain ⟨r, cap, he⟩ : ∃ r cap, Value.slice A2 (upto q q.length).length c2 = .slice (some ⟨r, 0, none⟩) (upto q q.length).length cap := by
        rcases hoC.2 with ⟨_, h⟩ | ⟨r, cap, _, h, _⟩
        · omega
        · exact ⟨r, cap, h⟩
      injection he with he1 he2 he3
      subst he1; subst he3
      have hlt := (hoC.lt r rfl).2
      obtain ⟨v, hr, _⟩ := hrC
      refine ⟨r, fun e => own_ne hoC hr (by decide) (by rw [← e]; rfl), by omega, fun _ => ⟨0, rfl, fun j hj => ?_⟩⟩
      rw [Nat.zero_add, hoC.cellAt j (by omega), cvals_get _ j hj]
    · exact ⟨wC.heap.size + 1, by omega, by omega, fun h => absurd h hz⟩
  have hinD : InS (wC.alloc (.cells #[.slice A2 (upto q q.length).length c2, .bool false] 45)) b0 wC.heap.size (rem q 0) false := by
    unfold rem
    rw [List.drop_zero]
    refine ⟨A2, c2, Row.new wC 45 _, hlc2, fun hp => ?_⟩
    obtain ⟨o, e, hc⟩ := hcl hp
    refine ⟨o, e, fun j hj => ?_⟩
    rw [World.cell?_alloc_past _ _ _ (cell_lt (hc j hj))]
    exact hc j hj
  have hrD : Rr (wC.alloc (.cells #[.slice A2 (upto q q.length).length c2, .bool false] 45)) wA.heap.size g1 q 0 false := by
    obtain ⟨v, r, o⟩ := hrC
    exact ⟨v, r.alloc _, o.alloc _⟩
  have hbD : Below w.heap.size w (wC.alloc (.cells #[.slice A2 (upto q q.length).length c2, .bool false] 45)) := by
    have h := HBB.out.trans (hbC.mono HBB.out.size)
    exact h.alloc h.size _
  have hfin0 : Fin q 0 false := ⟨by omega, hql, HQ.out.small, fun h => by cases h⟩
  have hwg1 : w.heap.size ≤ g1 := Nat.le_trans HA.out.size HG1.out
  have hwg3 : w.heap.size ≤ wC.heap.size := Nat.le_trans HBB.out.size hbC.size
  have H0 : Hid (∃ q' rd fl, Rr (wC.alloc (.cells #[.slice A2 (upto q q.length).length c2, .bool false] 45)) wA.heap.size g1 q' rd fl ∧ InS (wC.alloc (.cells #[.slice A2 (upto q q.length).length c2, .bool false] 45)) b0 wC.heap.size (rem q' rd) fl ∧ Fin q' rd fl ∧ Below w.heap.size w (wC.alloc (.cells #[.slice A2 (upto q q.length).length c2, .bool false] 45))) := ⟨q, 0, false, hrD, hinD, hfin0, hbD⟩
  have HN13 : Hid (g1 ≠ wC.heap.size) := Nat.ne_of_lt hg1C
  have HB01 := Lib.hid hb01; have HB03 := Lib.hid hb03; have HWG1 := Lib.hid hwg1; have HWG3 := Lib.hid hwg3
  clear hoC hbC hlc2 hrC hg1C hb01 hb03 hcl hinD hrD hbD hfin0 hwg1 hwg3 HRB HARGB HBB HG1
  generalize hul : (upto q q.length).length = ul at *
  clear hul
  go_wp2_with fail
  generalize wC.alloc (.cells #[.slice A2 ul c2, .bool false] 45) = wD at *
  generalize wC.heap.size = g3 at *
  generalize wA.heap.size = BR at *
  go_loopw [7] (fun t wr => ∃ i : Nat, i ≤ len1 ∧ t = .int .i64 i ∧ Hid (∃ q' rd fl, Rr wr BR g1 q' rd fl ∧ InS wr b0 g3 (rem q' rd) fl ∧ Fin q' rd fl ∧ Below w.heap.size w wr)) (fun t _ => len1 - (intOf t).toNat)
  case atStart => exact ⟨0, Nat.zero_le _, rfl, H0.out⟩
  case round =>
    obtain ⟨i, hi, rfl, HI⟩ := hrel
    by_cases hlt : i < len1
    · obtain ⟨hb, ho, rfl, hbl, hc⟩ := HH.out (by omega)
      obtain ⟨X, hcX, hX1, hX2⟩ := hc i hlt
      obtain ⟨q2, rd2, fl2, hr2, hin2, hfin2, hbe2⟩ := HI.out
      have k1 : wr.cell? ⟨hb, ho + i, none⟩ = some (.int .i8 X) := (hbe2.cell (p := ⟨hb, ho + i, none⟩) hbl).trans hcX
      have HR2 := Lib.hid hr2; have HIN2 := Lib.hid hin2; have HF2 := Lib.hid hfin2; have HBE2 := Lib.hid hbe2; have HCX := Lib.hid hcX
      clear hr2 hin2 hfin2 hbe2 hc hcX H0
      by_cases h77 : X = 77
      · subst h77
        go_wp2_with fail
        with_reducible refine (prog_flag wr BR g1 q2 rd2 fl2 HR2.out HF2.out).mono ?_
        rintro e w2 ⟨rfl, hra, hka⟩
        have hia : InS w2 b0 g3 (rem q2 rd2) fl2 := hka.ins HIN2.out (fun e => HN13.out e.symm) HB01.out
        have HRA := Lib.hid hra; have HKA := Lib.hid hka; have HIA := Lib.hid hia
        clear hra hka hia
        go_wp2_with fail
        with_reducible refine (doc_get w2 b0 g3 q2 rd2 fl2 1 HIA.out HF2.out HB03.out).mono ?_
        rintro e w3 ⟨rfl, hib, hkb⟩
        have hfn := HF2.out.next 1
        have hrb : Rr w3 BR g1 (resQ q2 rd2 fl2 1) (resR q2 rd2 fl2 1) (bad q2 rd2 fl2 1) := by
          obtain ⟨A5, c5, hrow5, _, _⟩ := HIA.out
          exact hkb.rr HRA.out hrow5 (by decide) HN13.out
        have hbb : Below w.heap.size w w3 := (HBE2.out.trans ((HKA.out w.heap.size).below HWG1.out)).trans ((hkb w.heap.size).below HWG3.out)
        generalize resX q2 rd2 fl2 1 = x at *
        generalize resQ q2 rd2 fl2 1 = q3 at *
        generalize resR q2 rd2 fl2 1 = rd3 at *
        generalize bad q2 rd2 fl2 1 = fl3 at *
        have H3 : Hid (Rr w3 BR g1 q3 rd3 fl3 ∧ InS w3 b0 g3 (rem q3 rd3) fl3 ∧ Fin q3 rd3 fl3 ∧ Below w.heap.size w w3) := ⟨hrb, hib, hfn, hbb⟩
        clear hrb hib hfn hbb hkb HRA HKA HIA k1

        obtain ⟨hr, hin, hfin, hbe⟩ := H3.out
        have HRR := Lib.hid hr; have HIN := Lib.hid hin; have HFI := Lib.hid hfin
        obtain ⟨A5, c5, hrow5, _, _⟩ := hin
        have m0 := hrow5.cell 0; have m1 := hrow5.cell 1
        simp only [List.getElem?_toArray, List.getElem?_cons_zero, List.getElem?_cons_succ] at m0 m1
        have hLm : (rem q3 rd3).length ≤ 100000 := by rw [rem_length]; have := hfin.2.1; omega
        clear hr hfin hbe hrow5
        generalize hL : (rem q3 rd3).length = L at m0 hLm
        have HL := Lib.hid hL; clear hL
        obtain ⟨E, hE⟩ : ∃ E, endB q3 rd3 fl3 = E := ⟨_, rfl⟩
        have HE := Lib.hid hE; clear hE
        cases fl3
        all_goals
          go_wp2_with fail
          go_quiet (first | (go_at_call 17; exact Calls.quiet_of_same (ok_quiet HRR.out)) | (go_at_call 22; exact Calls.quiet_of (left_quiet L HRR.out HFI.out HL.out)) | (go_at_call 18; exact Calls.quiet_of (end_quiet E HRR.out HFI.out HE.out)) | (go_at_call 23; exact Calls.quiet_of_same (inEnd_quiet E HIN.out HFI.out HE.out)))
          have H4 : Hid (∃ q' rd fl, Rr (w3.drewN nq) BR g1 q' rd fl ∧ InS (w3.drewN nq) b0 g3 (rem q' rd) fl ∧ Fin q' rd fl ∧ Below w.heap.size w (w3.drewN nq)) := ⟨q3, rd3, _, HRR.out, HIN.out, HFI.out, below_drewN H3.out.2.2.2 nq⟩
          go_wp2_with fail
          go_roundw
          case rel => exact ⟨i + 1, by omega, by go_num, H4⟩
          case measure => simp [intOf]; omega

      · have h77b : (X == 77) = false := beq_eq_false_iff_ne.2 h77
        clear h77
        have hwX : IntKind.i64.wrap X = X := IntWalk.i64_in _ (by omega)
        have HR2d : Hid (Rr wr.drew BR g1 q2 rd2 fl2) := HR2.out
        have HIN2d : Hid (InS wr.drew b0 g3 (rem q2 rd2) fl2) := HIN2.out
        have HBE2d : Hid (Below w.heap.size w wr.drew) := HBE2.out.drew
        have HK1d : Hid (wr.drew.cell? ⟨hb, ho + i, none⟩ = some (.int .i8 X)) := k1
        have HN1 : Hid (hb ≠ g1) := by have := HWG1.out; show _ ≠ _; omega
        have HN3 : Hid (hb ≠ g3) := by have := HWG3.out; show _ ≠ _; omega
        have HN31 : Hid (g3 ≠ g1) := fun e => HN13.out e.symm
        have hfn := HF2.out.next X
        have HFN := Lib.hid hfn; clear hfn
        go_wp2_with fail
        go_region_held3 (fun w' => w'.cell? ⟨hb, ho + i, none⟩ = some (.int .i8 X)) (first | assumption | go_keep) (first | (go_at_call 16; (with_reducible refine (prog_get wr.drew BR g1 q2 rd2 fl2 X HR2d.out HF2.out).mono ?_); rintro e w2 ⟨rfl, hra, hka⟩; have hia := hka.ins HIN2d.out HN31.out HB01.out; have k2 := hka.cell (p := ⟨hb, ho + i, none⟩) HN1.out HK1d.out; have HRA := Lib.hid hra; have HKA := Lib.hid hka; have HIA := Lib.hid hia; clear hra hka hia) | (go_at_call 21; (with_reducible refine (doc_get w2 b0 g3 q2 rd2 fl2 X HIA.out HF2.out HB03.out).mono ?_); rintro e w3 ⟨rfl, hib, hkb⟩; have k3 := hkb.cell (p := ⟨hb, ho + i, none⟩) HN3.out k2; have HIB := Lib.hid hib; have HKB := Lib.hid hkb; clear hib hkb))
        have hrb : Rr w3 BR g1 (resQ q2 rd2 fl2 X) (resR q2 rd2 fl2 X) (bad q2 rd2 fl2 X) := by
          obtain ⟨A5, c5, hrow5, _, _⟩ := HIA.out
          exact HKB.out.rr HRA.out hrow5 (by decide) HN13.out
        have hbb : Below w.heap.size w w3 := (HBE2d.out.trans ((HKA.out w.heap.size).below HWG1.out)).trans ((HKB.out w.heap.size).below HWG3.out)
        have hib := HIB.out
        have hfn := HFN.out
        clear k1 HIB HKB HKA HRA HIA HFN
        generalize resX q2 rd2 fl2 X = x at *
        generalize resQ q2 rd2 fl2 X = q3 at *
        generalize resR q2 rd2 fl2 X = rd3 at *
        generalize bad q2 rd2 fl2 X = fl3 at *
        have H3 : Hid (Rr w3 BR g1 q3 rd3 fl3 ∧ InS w3 b0 g3 (rem q3 rd3) fl3 ∧ Fin q3 rd3 fl3 ∧ Below w.heap.size w w3) := ⟨hrb, hib, hfn, hbb⟩
        clear hrb hib hfn hbb

        obtain ⟨hr, hin, hfin, hbe⟩ := H3.out
        have HRR := Lib.hid hr; have HIN := Lib.hid hin; have HFI := Lib.hid hfin
        obtain ⟨A5, c5, hrow5, _, _⟩ := hin
        have m0 := hrow5.cell 0; have m1 := hrow5.cell 1
        simp only [List.getElem?_toArray, List.getElem?_cons_zero, List.getElem?_cons_succ] at m0 m1
        have hLm : (rem q3 rd3).length ≤ 100000 := by rw [rem_length]; have := hfin.2.1; omega
        clear hr hfin hbe hrow5
        generalize hL : (rem q3 rd3).length = L at m0 hLm
        have HL := Lib.hid hL; clear hL
        obtain ⟨E, hE⟩ : ∃ E, endB q3 rd3 fl3 = E := ⟨_, rfl⟩
        have HE := Lib.hid hE; clear hE
        cases fl3
        all_goals
          go_wp2_with fail
          go_quiet (first | (go_at_call 17; exact Calls.quiet_of_same (ok_quiet HRR.out)) | (go_at_call 22; exact Calls.quiet_of (left_quiet L HRR.out HFI.out HL.out)) | (go_at_call 18; exact Calls.quiet_of (end_quiet E HRR.out HFI.out HE.out)) | (go_at_call 23; exact Calls.quiet_of_same (inEnd_quiet E HIN.out HFI.out HE.out)))
          have H4 : Hid (∃ q' rd fl, Rr (w3.drewN nq) BR g1 q' rd fl ∧ InS (w3.drewN nq) b0 g3 (rem q' rd) fl ∧ Fin q' rd fl ∧ Below w.heap.size w (w3.drewN nq)) := ⟨q3, rd3, _, HRR.out, HIN.out, HFI.out, below_drewN H3.out.2.2.2 nq⟩
          go_wp2_with fail
          go_roundw
          case rel => exact ⟨i + 1, by omega, by go_num, H4⟩
          case measure => simp [intOf]; omega

    · go_wp2_with fail
      go_ret
      obtain ⟨_, _, _, _, _, _, hbe⟩ := HI.out
      exact ⟨rfl, hbe⟩

/-! ### THE ROW's STEP: WRITTEN OUT: LEAVE IT -/
set_option maxRecDepth 100000 in
theorem lifted (os : Os) (started : os.Started) (H : Type) (enc : TypeId × Value → H) :
    ReturnsInHanded {} Try.checked os 4 .any (Rows.bitsReadsSpec.pre6 enc Try.prog Try.f4 Rows.bitsReadsRow.domain false) (Rows.bitsReadsSpec.post enc Try.prog Try.f4 false true false false) := by
  refine returnsInHanded_of_change (C := Try.checked) own started (by kernel_rfl) Try.func4
    (ChangeSpec.witness6 (enc := enc) (C := Try.checked) false ⟨#[], #[.slice none 0 0, .slice none 0 0], []⟩ 8 (by kernel_rfl) (by kernel_rfl) (by kernel_rfl) (by kernel_rfl)) ?_
  intro W base args ds gs before hval0 hW hcnd _
  have hval : ∀ (j : Nat) t v, Try.f4.params[j]? = some t → args[j]? = some v → Value.okWide Try.prog W .any base t v := hval0
  have hW' := hW
  obtain ⟨p, q, hA0, hV, rfl, hfz, hnd⟩ := hW
  have hA : DataW.TrodAll enc Try.prog W 0 (fun _ => true) true Try.f4.params.toList args.toList ds p := hA0
  rw [Try.params4] at hA hval
  obtain ⟨v0, vs0, d0, ds0, p0, q0, hargs, rfl, rfl, h0, r0⟩ := trodAll_cons hA
  obtain ⟨v1, vs1, d1, ds1, p1, q1, rfl, rfl, rfl, h1, r1⟩ := trodAll_cons r0
  obtain ⟨rfl, rfl, rfl⟩ := trodAll_nil r1
  obtain rfl : args = #[v0, v1] := by cases args; simp_all
  obtain ⟨rfl, rfl⟩ := trodVars_none hV
  obtain ⟨a0, len0, cap0, rfl⟩ := okWide_slice Try.underlying31 (hval 0 31 v0 rfl rfl)
  have k0 := h0
  have lt0 : ∀ x ∈ p0, x.block < W.heap.size := by obtain ⟨m, hm⟩ := k0; exact DataW.trod_lt m _ _ _ hm
  obtain ⟨z0, w0⟩ : ∃ zs, IsRow .u8 W a0 len0 cap0 zs := by
    obtain ⟨fuel, hf⟩ := h0
    rcases open_ints Try.underlying31 Try.underlying5 (by kernel_rfl) hf with ⟨hcs, _⟩ | ⟨x, l, c, zs, hcs, _, hl, hm, hz, _, hcell, hwz⟩
    · simp [Value.cells] at hcs
      obtain ⟨rfl, rfl, rfl⟩ := hcs
      exact ⟨[], .inl ⟨rfl, rfl, rfl, rfl⟩⟩
    · simp [Value.cells] at hcs
      obtain ⟨rfl, rfl, rfl⟩ := hcs
      exact ⟨zs, .inr ⟨_, rfl, hl, hm, by simpa using hz, hcell, hwz⟩⟩
  obtain ⟨a1, len1, cap1, rfl⟩ := okWide_slice Try.underlying41 (hval 1 41 v1 rfl rfl)
  have k1 := h1
  have lt1 : ∀ x ∈ p1, x.block < W.heap.size := by obtain ⟨m, hm⟩ := k1; exact DataW.trod_lt m _ _ _ hm
  obtain ⟨z1, w1⟩ : ∃ zs, IsRow .i8 W a1 len1 cap1 zs := by
    obtain ⟨fuel, hf⟩ := h1
    rcases open_ints Try.underlying41 Try.underlying46 (by kernel_rfl) hf with ⟨hcs, _⟩ | ⟨x, l, c, zs, hcs, _, hl, hm, hz, _, hcell, hwz⟩
    · simp [Value.cells] at hcs
      obtain ⟨rfl, rfl, rfl⟩ := hcs
      exact ⟨[], .inl ⟨rfl, rfl, rfl, rfl⟩⟩
    · simp [Value.cells] at hcs
      obtain ⟨rfl, rfl, rfl⟩ := hcs
      exact ⟨zs, .inr ⟨_, rfl, hl, hm, by simpa using hz, hcell, hwz⟩⟩
  clear hA0 hval0
  refine (walk a0 len0 cap0 z0 a1 len1 cap1 z1 W w0 w1).mono fun e W' ⟨he, bel⟩ => ?_
  subst he
  exact ⟨_, rfl, _, _, _, [], _, [], hW', trodAll_mk1 (shut_bool Try.underlying4 _), (trodAll_cons_mk (Below.trod laidOut (by kernel_rfl) (of_decide_eq_true (by kernel_rfl)) k0 bel lt0) (trodAll_cons_mk (Below.trod laidOut (by kernel_rfl) (of_decide_eq_true (by kernel_rfl)) k1 bel lt1) trodAll_mk0)), rfl, bel.frame _, fun h => by cases h⟩

theorem over : Rows.bitsReadsRow.holds Try.pinned (OpenSpec.ofChange Rows.bitsReadsSpec) :=
  OpenClaim.holds_of_wide 4 Try.f4 rfl rfl rfl rfl rfl rfl rfl ⟨rfl, rfl, rfl, rfl, rfl⟩ rfl rfl rfl rfl rfl (by kernel_rfl) Try.func4 (by kernel_rfl)
    (of_decide_eq_true (by kernel_rfl)) (by unfold Func.isWrapper; first | (rw [if_pos (by decide +kernel)]; kernel_rfl) | (rw [if_neg (by decide +kernel)]; exact ⟨rfl, rfl⟩))
    (fun os started H enc _ => lifted os started H enc)

/-- ████ THE STATEMENT ████ -/
theorem proved : Rows.BitsReadsSaid := over
#print axioms proved
end Go.Proofs.Ytnnfkehpoeehbaa.bitsReads
