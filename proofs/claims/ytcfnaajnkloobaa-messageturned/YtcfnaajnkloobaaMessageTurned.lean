/-
  PROVED: for every input the law MessageTurned returns true and leaves its arguments as they were: one bit of a message that is turned is always shown by its sum; with a new sum, cut, or with more behind, it is read as the document reads it. No condition.
-/
import Derived.Test.YtcfnaajnkloobaaRows
import Derived.Test.YtcfnaajnkloobaaM12
import Derived.Test.YtcfnaajnkloobaaFlip
import Derived.WalkKit
import Derived.ProofKit
import Derived.OpenShut
import Derived.ShutString
import Derived.ChangeOld
import Derived.Below
namespace Go.Proofs.Ytcfnaajnkloobaa.messageTurned
open Go.ChangeShapes Go.WideShapes Go.ChangeAt Go.RowKit
open Go.ChangeMaps (open_string shut_string)
set_option linter.unusedVariables false
set_option maxRecDepth 100000

theorem own : ownKnob Try.prog.godebug = none := by kernel_rfl
theorem laidOut : laidOutB Try.prog = true := by kernel_rfl

/-- What is known of a slice of integers that came in: nil, or a row of 'cap' cells. -/
def IsRow (k : IntKind) (w : World) (a : Option Addr) (len cap : Nat) (zs : List Int) : Prop :=
  (a = none ∧ len = 0 ∧ cap = 0 ∧ zs = []) ∨
  ∃ x, a = some x ∧ len ≤ cap ∧ cap ≤ maxLen ∧ zs.length = cap ∧ (∀ i, i < zs.length → w.cell? (x.add i) = some (.int k (zs.getD i 0))) ∧ ∀ n ∈ zs, (Lit.int k n).wf = true

theorem rd_take_b {w : World} {D : Nat} {A : Option Addr} {n c : Nat} {q : List Nat} (h : Rd w D (.slice A n c) (bvals q)) (k : Nat) (hk : k ≤ q.length) : Rd w D (.slice A k c) (bvals (q.take k)) := by
  have h1 := h.take k (by rw [bvals_length]; exact hk)
  rwa [bvals_take] at h1

theorem one_bit (i : Nat) (h : 1 ≤ i) : (1 : Nat).testBit i = false := by
  cases i with
  | zero => omega
  | succ i => rw [Nat.testBit_succ]; simp

theorem flip_one (p : List Nat) (hp : ∀ x ∈ p, x < 256) (k : Nat) (hlt : k / 8 < p.length) : ∀ i, 1 ≤ i → Flipped p (p.set (k / 8) (p[k / 8] ^^^ 2 ^ (k % 8))) k 1 i := by
  intro i hi
  induction i with
  | zero => omega
  | succ i ih =>
    rcases Nat.lt_or_ge i 1 with c | c
    · obtain rfl : i = 0 := by omega
      have := (Flipped.start hp k 1).turn (by decide) (show (k + 0) / 8 < p.length from hlt)
      exact this
    · exact (ih c).same (Or.inl (one_bit i c))

theorem bit_shown (Q : List Nat) (hQ : ∀ x ∈ Q, x < 256) (k : Nat) (hk : k < 8 * (Q.length + 2)) (PQ : List Nat) (x : Nat) (hx : (closed Q)[k / 8]? = some x) (hP : PQ = (closed Q).set (k / 8) (x ^^^ 2 ^ (k % 8))) : dec PQ = (M0, 3) := by
  have hlt : k / 8 < (closed Q).length := by rw [closed_length]; omega
  have hxe : x = (closed Q)[k / 8] := by
    rw [List.getElem?_eq_getElem hlt] at hx
    injection hx with hx
    exact hx.symm
  have hf := flip_one (closed Q) (closed_small hQ) k hlt 16 (by omega)
  rw [← hxe, ← hP] at hf
  have hne := hf.shown (by decide) (by decide) hk
  unfold dec
  rw [if_neg (by rw [hf.size, closed_length]; omega), if_pos hne]

set_option maxHeartbeats 8000000 in
theorem walk (s0 : Sy) (vr0 : Value) (a1 : Int) (a2 : Int) (a3 : Option Addr) (len3 cap3 : Nat) (z3 : List Int) (w : World) (w0 : SyOk s0 ∧ Rd w w.heap.size vr0 (bvals s0.trail)) (w1 : (Lit.int .u16 a1).wf = true) (w2 : (Lit.int .u8 a2).wf = true) (w3 : IsRow .u8 w a3 len3 cap3 z3) :
    Calls Try.prog 5 #[sayV s0 vr0, .int .u16 a1, .int .u8 a2, .slice a3 len3 cap3] w fun e w' => e = .returned (.bool true) ∧ Below w.heap.size w w' := by
  obtain ⟨at0, rfl, hat⟩ := u16_nat w1
  obtain ⟨cu, rfl, hcu⟩ := u8_nat w2
  obtain ⟨q4, hql4, hsm4, hrd4⟩ := arg_any w3
  clear w1 w2 w3
  have HSM4 := Lib.hid hsm4; have HQL4 := Lib.hid hql4; have HRDM := Lib.hid hrd4
  clear hsm4 hql4 hrd4
  obtain ⟨hok0, hrd0⟩ := w0
  obtain ⟨A0, l0, c0, hvr0⟩ : ∃ A l c, vr0 = .slice A l c := by obtain ⟨A, c, e, _⟩ := hrd0; exact ⟨A, _, c, e⟩
  subst hvr0
  have HOK0 := Lib.hid hok0
  clear hok0
  have hb0 := (Below.refl w.heap.size w).alloc (Nat.le_refl _) (.cells #[.int .u8 (s0.kind : Int), .int .u8 (s0.train : Int), .int .u8 (s0.dir : Int), .int .u32 (s0.time : Int), .int .u16 (s0.ahead : Int), .bool s0.whole, .slice A0 l0 c0] 26)
  have HB0 := Lib.hid hb0
  have HRD := Lib.hid (hrd0.up hb0)
  have HRW := Lib.hid (Row.new w 26 #[.int .u8 (s0.kind : Int), .int .u8 (s0.train : Int), .int .u8 (s0.dir : Int), .int .u32 (s0.time : Int), .int .u16 (s0.ahead : Int), .bool s0.whole, .slice A0 l0 c0])
  have HRDM0 := Lib.hid (HRDM.out.up hb0); clear HRDM
  clear hb0 hrd0
  unfold sayV
  go_enter Try.func5, Try.ntmps5
  go_upto_region 1 with (fail)
  obtain ⟨g0, hg0⟩ : ∃ n, n = w.heap.size := ⟨_, rfl⟩
  rw [← hg0] at HRW ⊢
  clear hg0
  generalize w.alloc (.cells #[.int .u8 (s0.kind : Int), .int .u8 (s0.train : Int), .int .u8 (s0.dir : Int), .int .u32 (s0.time : Int), .int .u16 (s0.ahead : Int), .bool s0.whole, .slice A0 l0 c0] 26) = W0 at *
  go_wp2_with fail
  refine (open_any W0).mono ?_; rintro e WA ⟨rfl, hbA⟩
  have HBA := Lib.hid (HB0.out.trans (hbA.mono HB0.out.size))
  have HRA := Lib.hid (HRD.out.up hbA)
  have HRWA := Lib.hid (Below.row hbA HRW.out HRW.out.lt)
  have HRDMA := Lib.hid (HRDM0.out.up hbA); clear HRDM0
  clear hbA HB0 HRD HRW
  by_cases hbig : 20 < len3
  · go_wp2_with fail
    refine (open_any WA).mono ?_; rintro e wB ⟨rfl, hbB⟩
    have HB := Lib.hid (HBA.out.trans (hbB.mono HBA.out.size)); clear hbB
    go_wp2_with fail
    go_ret
    exact ⟨rfl, HB.out⟩
  have hl3 : len3 ≤ 20 := by omega
  clear hbig
  have f0 := HRWA.out.cell 0
  have f1 := HRWA.out.cell 1
  have f2 := HRWA.out.cell 2
  have f3 := HRWA.out.cell 3
  have f4 := HRWA.out.cell 4
  have f5 := HRWA.out.cell 5
  have f6 := HRWA.out.cell 6
  simp only [List.getElem?_toArray, List.getElem?_cons_zero, List.getElem?_cons_succ] at f0 f1 f2 f3 f4 f5 f6
  go_wp2_with fail
  refine (ofSay_any WA s0 _ HOK0.out HRA.out).mono ?_; rintro e W1 ⟨V1, rfl, hv1, hb1⟩
  have HF := Lib.hid (of_fits s0)
  obtain ⟨m, hm⟩ : ∃ m, ofL s0 = m := ⟨_, rfl⟩
  rw [hm] at hv1 HF
  clear hm
  have HB1 := Lib.hid (HBA.out.trans (hb1.mono HBA.out.size))
  have HV1 := Lib.hid hv1
  have HRDM1 := Lib.hid (HRDMA.out.up hb1); clear HRDMA
  clear f0 f1 f2 f3 f4 f5 f6
  clear hb1 hv1 HBA HRA HRWA
  go_wp2_with fail
  refine (refEncode_any W1 V1 m HV1.out (by have := HF.out.kind; omega) (by have := HF.out.trail; omega)).mono ?_; rintro e wD ⟨vp, rfl, hop, hbD⟩
  have HD := Lib.hid (HB1.out.trans (hbD.mono HB1.out.size))
  have HRDMD := Lib.hid (HRDM1.out.up hbD); clear HRDM1
  clear hbD HB1 HV1
  obtain ⟨Q, hQ⟩ : ∃ Q, Q = pack (enc m) := ⟨_, rfl⟩
  rw [← hQ] at hop
  have HQ := Lib.hid hQ
  obtain ⟨M, hm⟩ : ∃ M, Q.length = M := ⟨_, rfl⟩
  have HM := Lib.hid hm
  have hm1 : M ≤ 20 := by rw [← hm, hQ]; exact fits_len HF.out
  have hm2 : 5 ≤ M := by rw [← hm, hQ]; exact pack_pos m
  have HQS : Hid (∀ z ∈ Q, z < 256) := by rw [hQ]; exact pack_small _
  have HOP := Lib.hid (Rd.of_own hop)
  clear hop hQ hm
  go_wp2_with fail
  refine (join_any wD wD.heap.size vp (.slice none 0 0) (closed Q) [] HOP.out (Rd.empty _ _) (Nat.le_refl _) (by rw [closed_length, HM.out]; omega) (by simp)).mono ?_; rintro e wE ⟨vj, rfl, hoj, hbE⟩
  obtain ⟨l1, hl1⟩ : ∃ l1, M + 2 = l1 := ⟨_, rfl⟩
  rw [List.append_nil, closed_length, HM.out, hl1] at hoj
  have HL1 := Lib.hid hl1
  have HE := Lib.hid (HD.out.trans (hbE.mono HD.out.size))
  have HRDME := Lib.hid (HRDMD.out.up hbE)
  obtain ⟨gj, cj, hvj, hgj⟩ : ∃ g c, vj = .slice (some ⟨g, 0, none⟩) l1 c ∧ wD.heap.size ≤ g := by
    rcases hoj.2 with ⟨_, e0⟩ | ⟨g, cap, cur, e0, hg, _⟩
    · omega
    · exact ⟨g, cap, e0, hg⟩
  subst hvj
  have hcap : l1 ≤ cj := own_cap hoj
  have HGW : Hid (w.heap.size ≤ gj) := Nat.le_trans HD.out.size hgj
  have hl1b : l1 ≤ 22 := by omega
  have hl1c : 7 ≤ l1 := by omega
  have hz : ((8 : Int) * (l1 : Int) == 0) = false := by simp; omega
  obtain ⟨k, hk, hkl⟩ : ∃ k : Nat, (at0 : Int) % (8 * (l1 : Int)) = (k : Int) ∧ k < 8 * l1 := ⟨at0 % (8 * l1), by simp, Nat.mod_lt _ (by omega)⟩
  have HK := Lib.hid hk; clear hk
  obtain ⟨a, ha⟩ : ∃ a, k / 8 = a := ⟨_, rfl⟩
  obtain ⟨bb, hbb⟩ : ∃ b, k % 8 = b := ⟨_, rfl⟩
  have hal : a < l1 := by omega
  have hb8 : bb < 8 := by omega
  obtain ⟨x, hxe⟩ : ∃ x, (closed Q)[a]? = some x := ⟨(closed Q)[a]'(by rw [closed_length, HM.out]; omega), List.getElem?_eq_getElem _⟩
  have hx2 : x < 256 := closed_small HQS.out x (List.mem_of_getElem? hxe)
  have cx : wE.cell? ⟨gj, a, none⟩ = some (.int .u8 (x : Int)) := by
    rw [hoj.cellAt a (by omega)]
    show (bvals (closed Q))[a]? = _
    unfold bvals
    rw [List.getElem?_map, hxe]; rfl
  have zx := hoj.frozenAt a
  have hxor := xor_pow x bb hx2 hb8
  obtain ⟨PQ, hPQ⟩ : ∃ P, P = (closed Q).set a (x ^^^ 2 ^ bb) := ⟨_, rfl⟩
  have HPL : Hid (PQ.length = l1) := by show _ = _; rw [hPQ, List.length_set, closed_length, HM.out]; exact hl1
  have HDEC : Hid (dec PQ = (M0, 3)) := bit_shown Q HQS.out k (by rw [HM.out]; omega) PQ x (by rw [ha]; exact hxe) (by rw [ha, hbb]; exact hPQ)
  have HPS : Hid (∀ z ∈ PQ, z < 256) := fun z hz => by
    rw [hPQ] at hz
    rcases List.mem_or_eq_of_mem_set hz with h | h
    · exact closed_small HQS.out z h
    · rw [h]; exact Nat.xor_lt_two_pow (n := 8) hx2 (Nat.pow_lt_pow_right (by decide) hb8)
  have hoF : (wE.setCell ⟨gj, a, none⟩ (.int .u8 ((x ^^^ 2 ^ bb : Nat) : Int))).ownsRow wD.heap.size 5 1 (.slice (some ⟨gj, 0, none⟩) l1 cj) l1 (bvals PQ) := by
    have h := (hoj.stored a (.int .u8 ((x ^^^ 2 ^ bb : Nat) : Int))).1
    have e : (bvals (closed Q)).set a (.int .u8 ((x ^^^ 2 ^ bb : Nat) : Int)) = bvals PQ := by rw [hPQ]; unfold bvals; rw [List.map_set]
    rw [e] at h; exact h
  have HOF := Lib.hid (Rd.of_own hoF)
  have HF2 : Hid (Below w.heap.size w (wE.setCell ⟨gj, a, none⟩ (.int .u8 ((x ^^^ 2 ^ bb : Nat) : Int)))) := HE.out.setCell (p := ⟨gj, a, none⟩) HGW.out _
  have HRMF : Hid (Rd (wE.setCell ⟨gj, a, none⟩ (.int .u8 ((x ^^^ 2 ^ bb : Nat) : Int))) (wE.setCell ⟨gj, a, none⟩ (.int .u8 ((x ^^^ 2 ^ bb : Nat) : Int))).heap.size (.slice a3 len3 cap3) (bvals q4)) := by
    have hb : Below wD.heap.size wD (wE.setCell ⟨gj, a, none⟩ (.int .u8 ((x ^^^ 2 ^ bb : Nat) : Int))) := hbE.setCell (p := ⟨gj, a, none⟩) hgj _
    exact HRDMD.out.up hb
  have hjj : k < 200 := by omega
  have haw : IntKind.i64.wrap ((k : Int) / 8) = (a : Int) := by rw [IntKind.wrap_i64]; omega
  have hbw : (k : Int).tmod 8 = (bb : Int) := by rw [Int.tmod_eq_emod_of_nonneg (by omega)]; omega
  generalize x ^^^ 2 ^ bb = y at *
  clear hoj hoF hPQ hxe ha hbb hbE HOP HE HRDME HD HRDMD hgj hl1
  go_wp2_with fail
  rw [HK.out]
  go_upto_region 5 with (fail)
  go_still_tail 10, (by kernel_rfl)
  change wpList _ _ _ _ _ wE.drew
  have cx2 : wE.drew.cell? ⟨gj, a, none⟩ = some (.int .u8 (x : Int)) := cx
  have zx2 : wE.drew.frozen? ⟨gj, a, none⟩ = false := zx
  have HOF2 : Hid (Rd (wE.drew.setCell ⟨gj, a, none⟩ (.int .u8 (y : Int))) (wE.drew.setCell ⟨gj, a, none⟩ (.int .u8 (y : Int))).heap.size (.slice (some ⟨gj, 0, none⟩) l1 cj) (bvals PQ)) := HOF.out
  have HF3 : Hid (Below w.heap.size w (wE.drew.setCell ⟨gj, a, none⟩ (.int .u8 (y : Int)))) := ⟨HF2.out.os, HF2.out.tape, HF2.out.output, HF2.out.size, HF2.out.block⟩
  have HRM3 : Hid (Rd (wE.drew.setCell ⟨gj, a, none⟩ (.int .u8 (y : Int))) (wE.drew.setCell ⟨gj, a, none⟩ (.int .u8 (y : Int))).heap.size (.slice a3 len3 cap3) (bvals q4)) := HRMF.out
  clear cx zx HOF HF2 HRMF
  generalize wE.drew = wd at *
  go_upto_region 6 with (fail)
  generalize wd.setCell ⟨gj, a, none⟩ (.int .u8 (y : Int)) = wF at *
  clear cx2 zx2 hxor haw hbw
  go_wp2_with fail
  refine (decode_any wF _ PQ HOF2.out HPS.out (by have := HPL.out; omega)).mono ?_; rintro e wG ⟨V1, rfl, hv1, hbG⟩
  rw [HDEC.out] at hv1 ⊢
  have HG := Lib.hid (HF3.out.trans (hbG.mono HF3.out.size))
  have HOG := Lib.hid (HOF2.out.up hbG); have HRMG := Lib.hid (HRM3.out.up hbG)
  obtain ⟨pA, pl, pc, hva⟩ := hv1.agg
  subst hva
  clear hbG hv1 HF3 HOF2 HRM3
  simp only
  obtain ⟨z, hz0⟩ : ∃ z, z = M0 := ⟨_, rfl⟩
  rw [← hz0]
  clear hz0
  have hb2 := (Below.refl wG.heap.size wG).alloc (Nat.le_refl _) (.cells #[.int .u8 (z.kind : Int), .int .i64 z.train, .int .i64 z.time, .int .i64 z.dir, .int .i64 z.ahead, .bool z.whole, .slice pA pl pc] 29)
  have HH := Lib.hid (HG.out.trans (hb2.mono HG.out.size))
  have HOH := Lib.hid (HOG.out.up hb2); have HRMH := Lib.hid (HRMG.out.up hb2)
  clear hb2 HG HOG HRMG
  go_upto_region 7 with (fail)
  generalize wG.alloc (.cells #[.int .u8 (z.kind : Int), .int .i64 z.train, .int .i64 z.time, .int .i64 z.dir, .int .i64 z.ahead, .bool z.whole, .slice pA pl pc] 29) = wH at *
  have hlm : (l1 : Int) - 2 = (M : Int) := by have := HL1.out; omega
  have hml : M ≤ cj := by have := HL1.out; omega
  have hm20 : M ≤ 20 := hm1
  rcases (show cu % 2 = 1 ∨ cu % 2 = 0 by omega) with hp | hp
  · have hp1 : (cu : Int) % 2 = 1 := by omega
    have hp2 : (cu : Int).tmod 2 = 1 := by rw [Int.tmod_eq_emod_of_nonneg (by omega)]; omega
    obtain ⟨r3, HR3⟩ : ∃ k, Hid (cu % (M + 1) = k ∧ k < M + 1) := ⟨_, rfl, Nat.mod_lt _ (by omega)⟩
    have hr3 : r3 ≤ M := by have := HR3.out.2; omega
    have hc2 : (cu : Int) % ((M : Int) + 1) = (r3 : Int) := by have := HR3.out.1; rw [← this]; simp
    have hc1 : (cu : Int).tmod ((M : Int) + 1) = (r3 : Int) := by rw [Int.tmod_eq_emod_of_nonneg (by omega)]; exact hc2
    have hnz1 : ¬ (M : Int) + 1 = 0 := by omega
    obtain ⟨k5, hk5⟩ : ∃ k, M = k + r3 := ⟨M - r3, by omega⟩
    have hks : (M : Int) - (r3 : Int) = (k5 : Int) := by omega
    have hk5M : k5 ≤ M := by omega
    have hk5c : k5 ≤ cj := by omega
    have HK5 := Lib.hid hk5
    clear hk5 hp
    go_wp2_with fail
    clear hp1 hp2 hc1 hc2 hks hnz1
    have HT : Hid (Rd wH wH.heap.size (.slice (some ⟨gj, 0, none⟩) k5 cj) (bvals (PQ.take k5))) := rd_take_b HOH.out k5 (by have h1 := HPL.out; have h2 := HL1.out; omega)
    have HSM : Hid (∀ z ∈ PQ.take k5, z < 256) := fun z hz => HPS.out z (List.mem_of_mem_take hz)
    have HTL : Hid ((PQ.take k5).length ≤ 20) := by show _ ≤ _; rw [List.length_take]; omega
    refine (refClose_any wH wH.heap.size _ (PQ.take k5) HT.out (Nat.le_refl _) HSM.out (by have := HTL.out; omega)).mono ?_; rintro e wI ⟨vi, rfl, hoi, hbI⟩
    have HI := Lib.hid (HH.out.trans (hbI.mono HH.out.size))
    have HOI := Lib.hid (Rd.of_own hoi)
    have HTI := Lib.hid (HT.out.up hbI); have HRMI := Lib.hid (HRMH.out.up hbI)
    clear hbI hoi HH HT HRMH HOH
    go_wp2_with fail
    refine (reads_any wI vi (closed (PQ.take k5)) HOI.out (closed_small HSM.out) (by have := HTL.out; rw [closed_length]; omega)).mono ?_; rintro e wJ ⟨rfl, hbJ⟩
    have HJ := Lib.hid (HI.out.trans (hbJ.mono HI.out.size))
    have HTJ := Lib.hid (HTI.out.up hbJ); have HRMJ := Lib.hid (HRMI.out.up hbJ)
    clear hbJ HI HOI HTI HRMI
    go_wp2_with fail
    refine (join_any wJ wJ.heap.size _ _ (PQ.take k5) q4 HTJ.out HRMJ.out (Nat.le_refl _) (by have := HTL.out; omega) (by have := HQL4.out; omega)).mono ?_; rintro e wK ⟨vk, rfl, hok, hbK⟩
    have HK9 := Lib.hid (HJ.out.trans (hbK.mono HJ.out.size))
    have HOK9 := Lib.hid (Rd.of_own hok)
    clear hbK hok HJ HTJ HRMJ
    have HSM2 : Hid (∀ z ∈ PQ.take k5 ++ q4, z < 256) := fun z hz => by
      rcases List.mem_append.1 hz with c | c
      · exact HSM.out z c
      · exact HSM4.out z c
    have HLN : Hid ((PQ.take k5 ++ q4).length ≤ 40) := by show _ ≤ _; have h1 := HTL.out; have h2 := HQL4.out; rw [List.length_append]; omega
    go_wp2_with fail
    refine (refClose_any wK wK.heap.size _ (PQ.take k5 ++ q4) HOK9.out (Nat.le_refl _) HSM2.out (by have := HLN.out; omega)).mono ?_; rintro e wL ⟨vl, rfl, hol, hbL⟩
    have HL9 := Lib.hid (HK9.out.trans (hbL.mono HK9.out.size))
    have HOL := Lib.hid (Rd.of_own hol)
    clear hbL hol HK9 HOK9
    go_wp2_with fail
    refine (reads_any wL vl (closed (PQ.take k5 ++ q4)) HOL.out (closed_small HSM2.out) (by have := HLN.out; rw [closed_length]; omega)).mono ?_; rintro e wM ⟨rfl, hbM⟩
    have HM9 := Lib.hid (HL9.out.trans (hbM.mono HL9.out.size))
    clear hbM
    go_wp2_with fail
    go_ret
    exact ⟨rfl, HM9.out⟩
  · have hp1 : (cu : Int) % 2 = 0 := by omega
    have hp2 : (cu : Int).tmod 2 = 0 := by rw [Int.tmod_eq_emod_of_nonneg (by omega)]; omega
    clear hp
    go_wp2_with fail
    clear hp1 hp2
    obtain ⟨k5, hk5⟩ : ∃ k, k = M := ⟨_, rfl⟩
    rw [← hk5]
    have hk5M : k5 ≤ M := by omega
    clear hk5
    have HT : Hid (Rd wH wH.heap.size (.slice (some ⟨gj, 0, none⟩) k5 cj) (bvals (PQ.take k5))) := rd_take_b HOH.out k5 (by have h1 := HPL.out; have h2 := HL1.out; omega)
    have HSM : Hid (∀ z ∈ PQ.take k5, z < 256) := fun z hz => HPS.out z (List.mem_of_mem_take hz)
    have HTL : Hid ((PQ.take k5).length ≤ 20) := by show _ ≤ _; rw [List.length_take]; omega
    refine (refClose_any wH wH.heap.size _ (PQ.take k5) HT.out (Nat.le_refl _) HSM.out (by have := HTL.out; omega)).mono ?_; rintro e wI ⟨vi, rfl, hoi, hbI⟩
    have HI := Lib.hid (HH.out.trans (hbI.mono HH.out.size))
    have HOI := Lib.hid (Rd.of_own hoi)
    have HTI := Lib.hid (HT.out.up hbI); have HRMI := Lib.hid (HRMH.out.up hbI)
    clear hbI hoi HH HT HRMH HOH
    go_wp2_with fail
    refine (reads_any wI vi (closed (PQ.take k5)) HOI.out (closed_small HSM.out) (by have := HTL.out; rw [closed_length]; omega)).mono ?_; rintro e wJ ⟨rfl, hbJ⟩
    have HJ := Lib.hid (HI.out.trans (hbJ.mono HI.out.size))
    have HTJ := Lib.hid (HTI.out.up hbJ); have HRMJ := Lib.hid (HRMI.out.up hbJ)
    clear hbJ HI HOI HTI HRMI
    go_wp2_with fail
    refine (join_any wJ wJ.heap.size _ _ (PQ.take k5) q4 HTJ.out HRMJ.out (Nat.le_refl _) (by have := HTL.out; omega) (by have := HQL4.out; omega)).mono ?_; rintro e wK ⟨vk, rfl, hok, hbK⟩
    have HK9 := Lib.hid (HJ.out.trans (hbK.mono HJ.out.size))
    have HOK9 := Lib.hid (Rd.of_own hok)
    clear hbK hok HJ HTJ HRMJ
    have HSM2 : Hid (∀ z ∈ PQ.take k5 ++ q4, z < 256) := fun z hz => by
      rcases List.mem_append.1 hz with c | c
      · exact HSM.out z c
      · exact HSM4.out z c
    have HLN : Hid ((PQ.take k5 ++ q4).length ≤ 40) := by show _ ≤ _; have h1 := HTL.out; have h2 := HQL4.out; rw [List.length_append]; omega
    go_wp2_with fail
    refine (refClose_any wK wK.heap.size _ (PQ.take k5 ++ q4) HOK9.out (Nat.le_refl _) HSM2.out (by have := HLN.out; omega)).mono ?_; rintro e wL ⟨vl, rfl, hol, hbL⟩
    have HL9 := Lib.hid (HK9.out.trans (hbL.mono HK9.out.size))
    have HOL := Lib.hid (Rd.of_own hol)
    clear hbL hol HK9 HOK9
    go_wp2_with fail
    refine (reads_any wL vl (closed (PQ.take k5 ++ q4)) HOL.out (closed_small HSM2.out) (by have := HLN.out; rw [closed_length]; omega)).mono ?_; rintro e wM ⟨rfl, hbM⟩
    have HM9 := Lib.hid (HL9.out.trans (hbM.mono HL9.out.size))
    clear hbM
    go_wp2_with fail
    go_ret
    exact ⟨rfl, HM9.out⟩

theorem lifted (os : Os) (started : os.Started) (H : Type) (enc : TypeId × Value → H) :
    ReturnsInHanded {} Try.checked os 5 .any (Rows.messageTurnedSpec.pre6 enc Try.prog Try.f5 Rows.messageTurnedRow.domain false) (Rows.messageTurnedSpec.post enc Try.prog Try.f5 false true false false) := by
  refine returnsInHanded_of_change (C := Try.checked) own started (by kernel_rfl) Try.func5
    (ChangeSpec.witness6 (enc := enc) (C := Try.checked) false ⟨#[], #[.agg #[.int .u8 0, .int .u8 0, .int .u8 0, .int .u32 0, .int .u16 0, .bool false, .slice none 0 0], .int .u16 0, .int .u8 0, .slice none 0 0], []⟩ 8 (by kernel_rfl) (by kernel_rfl) (by kernel_rfl) (by kernel_rfl)) ?_
  intro W base args ds gs before hval0 hW hcnd _
  have hval : ∀ (j : Nat) t v, Try.f5.params[j]? = some t → args[j]? = some v → Value.okWide Try.prog W .any base t v := hval0
  have hW' := hW
  obtain ⟨p, q, hA0, hV, rfl, hfz, hnd⟩ := hW
  have hA : DataW.TrodAll enc Try.prog W 0 (fun _ => true) true Try.f5.params.toList args.toList ds p := hA0
  rw [Try.params5] at hA hval
  obtain ⟨v0, vs0, d0, ds0, p0, q0, hargs, rfl, rfl, h0, r0⟩ := trodAll_cons hA
  obtain ⟨v1, vs1, d1, ds1, p1, q1, rfl, rfl, rfl, h1, r1⟩ := trodAll_cons r0
  obtain ⟨v2, vs2, d2, ds2, p2, q2, rfl, rfl, rfl, h2, r2⟩ := trodAll_cons r1
  obtain ⟨v3, vs3, d3, ds3, p3, q3, rfl, rfl, rfl, h3, r3⟩ := trodAll_cons r2
  obtain ⟨rfl, rfl, rfl⟩ := trodAll_nil r3
  obtain rfl : args = #[v0, v1, v2, v3] := by cases args; simp_all
  obtain ⟨rfl, rfl⟩ := trodVars_none hV
  have k0 := h0
  have lt0 : ∀ x ∈ p0, x.block < W.heap.size := by obtain ⟨m, hm⟩ := k0; exact DataW.trod_lt m _ _ _ hm
  obtain ⟨e0, vr0, hv0, w0⟩ := say_of_trod (hval 0 26 v0 rfl rfl) h0
  subst hv0
  obtain ⟨a1, rfl, rfl, rfl, w1⟩ := open_int Try.underlying23 (hval 1 23 v1 rfl rfl) h1
  obtain ⟨a2, rfl, rfl, rfl, w2⟩ := open_int Try.underlying5 (hval 2 5 v2 rfl rfl) h2
  obtain ⟨a3, len3, cap3, rfl⟩ := okWide_slice Try.underlying24 (hval 3 24 v3 rfl rfl)
  have k3 := h3
  have lt3 : ∀ x ∈ p3, x.block < W.heap.size := by obtain ⟨m, hm⟩ := k3; exact DataW.trod_lt m _ _ _ hm
  obtain ⟨z3, w3⟩ : ∃ zs, IsRow .u8 W a3 len3 cap3 zs := by
    obtain ⟨fuel, hf⟩ := h3
    rcases open_ints Try.underlying24 Try.underlying5 (by kernel_rfl) hf with ⟨hcs, _⟩ | ⟨x, l, c, zs, hcs, _, hl, hm, hz, _, hcell, hwz⟩
    · simp [Value.cells] at hcs
      obtain ⟨rfl, rfl, rfl⟩ := hcs
      exact ⟨[], .inl ⟨rfl, rfl, rfl, rfl⟩⟩
    · simp [Value.cells] at hcs
      obtain ⟨rfl, rfl, rfl⟩ := hcs
      exact ⟨zs, .inr ⟨_, rfl, hl, hm, by simpa using hz, hcell, hwz⟩⟩
  clear hA0 hval0
  refine (walk e0 vr0 a1 a2 a3 len3 cap3 z3 W w0 w1 w2 w3).mono fun e W' ⟨he, bel⟩ => ?_
  subst he
  exact ⟨_, rfl, _, _, _, [], _, [], hW', trodAll_mk1 (shut_bool Try.underlying4 _), (trodAll_cons_mk (Below.trod laidOut (by kernel_rfl) (of_decide_eq_true (by kernel_rfl)) k0 bel lt0) (trodAll_cons_mk (shut_int Try.underlying23 w1) (trodAll_cons_mk (shut_int Try.underlying5 w2) (trodAll_cons_mk (Below.trod laidOut (by kernel_rfl) (of_decide_eq_true (by kernel_rfl)) k3 bel lt3) trodAll_mk0)))), rfl, bel.frame _, fun h => by cases h⟩

theorem over : Rows.messageTurnedRow.holds Try.pinned (OpenSpec.ofChange Rows.messageTurnedSpec) :=
  OpenClaim.holds_of_wide 5 Try.f5 rfl rfl rfl rfl rfl rfl rfl ⟨rfl, rfl, rfl, rfl, rfl⟩ rfl rfl rfl rfl rfl (by kernel_rfl) Try.func5 (by kernel_rfl)
    (of_decide_eq_true (by kernel_rfl)) (by unfold Func.isWrapper; first | (rw [if_pos (by decide +kernel)]; kernel_rfl) | (rw [if_neg (by decide +kernel)]; exact ⟨rfl, rfl⟩))
    (fun os started H enc _ => lifted os started H enc)

theorem proved : Rows.MessageTurnedSaid := over
#print axioms proved
end Go.Proofs.Ytcfnaajnkloobaa.messageTurned
