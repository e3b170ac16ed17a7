/-
  PROVED: for every input the law LayoutTurned returns true and leaves its arguments as they were: a layout's bytes in which something is turned, that are cut, or go on, with a new sum or the old one, are read as the document reads them; with the old sum a turned byte is always shown. No condition.
-/
import Derived.Test.YthpfhcelmddjlaaRows
import Derived.Test.YthpfhcelmddjlaaRm
import Derived.Test.YthpfhcelmddjlaaFlip
import Derived.WalkKit
import Derived.ProofKit
import Derived.OpenShut
import Derived.ShutString
import Derived.ChangeOld
import Derived.Below
namespace Go.Proofs.Ythpfhcelmddjlaa.layoutTurned
open Go.ChangeShapes Go.WideShapes Go.ChangeAt Go.RowKit
open Go.ChangeMaps (open_string shut_string)
set_option linter.unusedVariables false
set_option maxRecDepth 100000

theorem own : ownKnob Try.prog.godebug = none := by kernel_rfl
theorem laidOut : laidOutB Try.prog = true := by kernel_rfl

/-- What is known of a slice of integers that came in: nil, or a row of 'cap' cells. -/
def IsRow (k : IntKind) (w : World) (a : Option Addr) (len cap : Nat) (zs : List Int) : Prop :=
  (a = none ∧ len = 0 ∧ cap = 0 ∧ zs = []) ∨
  ∃ x, a = some x ∧ len ≤ cap ∧ cap ≤ maxLen ∧ zs.length = cap ∧ (∀ i, i < zs.length → w.cell? (x.add i) = some (.int k (zs.getD i 0))) ∧ ∀ n ∈ zs, (Lit.int k n).wf = true

theorem low_run : ∀ t : Fin 256, t.val ≠ 0 → ∃ s : Fin 8, (t.val / 2 ^ s.val) % 2 = 1 ∧ t.val % 2 ^ s.val = 0 := by decide +kernel

theorem byte_shown (p : List Nat) (hp : ∀ x ∈ p, x < 256) (a t : Nat) (ha : a < p.length) (ht : t < 256) (h0 : t ≠ 0) (q : List Nat) (hq : q = (closed p).set a (p.getD a 0 ^^^ t)) : sumOf (q.take (q.length - 2)) ≠ tailNum q := by
  obtain ⟨s, hs1, hs2⟩ := low_run ⟨t, ht⟩ h0
  obtain ⟨s, hs⟩ := s
  simp only at hs1 hs2
  have hlen : q.length = p.length + 2 := by rw [hq, List.length_set, closed_length]
  have hga : (closed p)[a]? = some (p.getD a 0) := by
    unfold closed
    rw [List.getElem?_append_left ha, List.getElem?_eq_getElem ha]
    simp [List.getD, ha]
  have hpa : p.getD a 0 < 256 := by
    have : p.getD a 0 = p[a] := by simp [List.getD, ha]
    rw [this]; exact hp _ (List.getElem_mem _)
  refine shows p q (8 * a + s) (t / 2 ^ s) ?_ hlen (by have := Nat.div_le_self t (2 ^ s); omega) hs1 (by omega) ?_
  · intro x hx
    rw [hq] at hx
    rcases List.mem_or_eq_of_mem_set hx with h | h
    · exact closed_small hp x h
    · rw [h]
      exact Nat.xor_lt_two_pow (n := 8) hpa ht
  · intro j hj
    unfold bitL turned
    rw [Nat.testBit_div_two_pow]
    by_cases hja : j / 8 = a
    · have e1 : q.getD (j / 8) 0 = p.getD a 0 ^^^ t := by
        rw [hja, hq]
        simp [List.getD, closed_length, show a < p.length + 2 by omega]
      have e2 : (closed p).getD (j / 8) 0 = p.getD a 0 := by
        rw [hja]
        show ((closed p)[a]?).getD 0 = _
        rw [hga]; rfl
      rw [e1, e2, Nat.testBit_xor]
      by_cases hb : s ≤ j % 8
      · have e3 : j - (8 * a + s) + s = j % 8 := by omega
        rw [decide_eq_true (by omega), e3]
        cases (p.getD a 0).testBit (j % 8) <;> cases t.testBit (j % 8) <;> rfl
      · have e4 : t.testBit (j % 8) = false := by
          have := Nat.testBit_mod_two_pow t s (j % 8)
          rw [hs2, Nat.zero_testBit, decide_eq_true (by omega)] at this
          simpa using this.symm
        rw [decide_eq_false (by omega), e4]
        cases (p.getD a 0).testBit (j % 8) <;> rfl
    · have e1 : q.getD (j / 8) 0 = (closed p).getD (j / 8) 0 := by
        rw [hq]
        simp [List.getD, Ne.symm hja]
      rw [e1]
      have e5 : (decide (8 * a + s ≤ j) && t.testBit (j - (8 * a + s) + s)) = false := by
        by_cases hlt : j < 8 * a
        · rw [decide_eq_false (by omega)]; rfl
        · have e6 : t.testBit (j - (8 * a + s) + s) = false := by
            apply Nat.testBit_lt_two_pow
            have : (2 : Nat) ^ 8 ≤ 2 ^ (j - (8 * a + s) + s) := Nat.pow_le_pow_right (by omega) (by omega)
            omega
          rw [e6, Bool.and_false]
      rw [e5]
      cases ((closed p).getD (j / 8) 0).testBit (j % 8) <;> rfl

theorem xor_byte (x t : Nat) (hx : x < 256) (ht : t < 256) : bits BinOp.xor IntKind.u8 (x : Int) (t : Int) = ((x ^^^ t : Nat) : Int) := u8_xor_nat x t hx ht

theorem rd_take_b {w : World} {B : Nat} {A : Option Addr} {n c : Nat} {q : List Nat} (h : Rd w B (.slice A n c) (bvals q)) (k : Nat) (hk : k ≤ q.length) : Rd w B (.slice A k c) (bvals (q.take k)) := by
  have h2 := h.take k (by rw [bvals_length]; exact hk)
  have e : (bvals q).take k = bvals (q.take k) := by unfold bvals; rw [← List.map_take]
  rwa [e] at h2

set_option maxHeartbeats 8000000 in
theorem walk (d0 : Dr) (vr0 : Value) (a1 : Int) (a2 : Int) (a3 : Int) (a4 : Option Addr) (len4 cap4 : Nat) (z4 : List Int) (a5 : Bool) (w : World) (w0 : DrOk d0 ∧ BRows w w.heap.size vr0 d0.routes ∧ d0.routes.length ≤ 9223372036854775807 ∧ ∀ r ∈ d0.routes, r.length ≤ 9223372036854775807) (w1 : (Lit.int .u16 a1).wf = true) (w2 : (Lit.int .u8 a2).wf = true) (w3 : (Lit.int .u8 a3).wf = true) (w4 : IsRow .u8 w a4 len4 cap4 z4) :
    Calls Try.prog 5 #[drV d0 vr0, .int .u16 a1, .int .u8 a2, .int .u8 a3, .slice a4 len4 cap4, .bool a5] w fun e w' => e = .returned (.bool true) ∧ Below w.heap.size w w' := by
  obtain ⟨n1, hn1, hn2⟩ := u16_nat w1
  subst hn1
  obtain ⟨t2, ht, ht2⟩ := u8_nat w2
  subst ht
  obtain ⟨c3, hc, hc3⟩ := u8_nat w3
  subst hc
  obtain ⟨q4, hql, hsm, hrd⟩ := arg_any w4
  have HRD4 := Lib.hid hrd; have HSM4 := Lib.hid hsm; have HQE4 := Lib.hid hql
  clear w1 w2 w3 w4 hql hsm hrd
  obtain ⟨hd, hbr, hl, hrl⟩ := w0
  obtain ⟨Ar, kr, cr, hvr⟩ : ∃ A k c, vr0 = .slice A k c := by obtain ⟨vs, ⟨A, c, e, _⟩, _⟩ := hbr; exact ⟨A, _, c, e⟩
  subst hvr
  have HDK := Lib.hid hd
  have HL : Hid (d0.routes.length ≤ 9223372036854775807 ∧ ∀ r ∈ d0.routes, r.length ≤ 9223372036854775807) := ⟨hl, hrl⟩
  clear hd hl hrl
  have hb0 := (Below.refl w.heap.size w).alloc (Nat.le_refl _) (.cells #[.int .u8 (d0.form : Int), .int .u8 (d0.len : Int), .int .u8 (d0.speed : Int), .int .u16 (d0.mute : Int), .int .u16 (d0.wait : Int), .int .u8 (d0.cancel : Int), .int .u8 (d0.stay : Int), .int .u8 (d0.join : Int), .slice Ar kr cr] 25)
  have HB0 := Lib.hid hb0
  have HBR := Lib.hid (hbr.up hb0)
  have HRW := Lib.hid (Row.new w 25 #[.int .u8 (d0.form : Int), .int .u8 (d0.len : Int), .int .u8 (d0.speed : Int), .int .u16 (d0.mute : Int), .int .u16 (d0.wait : Int), .int .u8 (d0.cancel : Int), .int .u8 (d0.stay : Int), .int .u8 (d0.join : Int), .slice Ar kr cr])
  clear hb0 hbr
  unfold drV
  cases hs : small d0 with
  | false =>
    go_enter Try.func5, Try.ntmps5
    go_upto_region 1 with (fail)
    obtain ⟨g0, hg0⟩ : ∃ n, n = w.heap.size := ⟨_, rfl⟩
    rw [← hg0] at HRW ⊢
    have HG0 : Hid (g0 = w.heap.size) := hg0
    generalize w.alloc (.cells #[.int .u8 (d0.form : Int), .int .u8 (d0.len : Int), .int .u8 (d0.speed : Int), .int .u16 (d0.mute : Int), .int .u16 (d0.wait : Int), .int .u8 (d0.cancel : Int), .int .u8 (d0.stay : Int), .int .u8 (d0.join : Int), .slice Ar kr cr] 25) = W0 at *
    clear hg0
    go_wp2_with fail
    refine (bare_any _).mono ?_; rintro e wA ⟨rfl, hbA⟩
    have HA := Lib.hid (HB0.out.trans (hbA.mono HB0.out.size))
    have HRA := Lib.hid (Below.row hbA HRW.out HRW.out.lt)
    have HBA := Lib.hid (HBR.out.up hbA)
    clear hbA HB0 HRW HBR
    have f0 := HRA.out.cell 0
    have f1 := HRA.out.cell 1
    have f2 := HRA.out.cell 2
    have f3 := HRA.out.cell 3
    have f4 := HRA.out.cell 4
    have f5 := HRA.out.cell 5
    have f6 := HRA.out.cell 6
    have f7 := HRA.out.cell 7
    have f8 := HRA.out.cell 8
    simp only [List.getElem?_toArray, List.getElem?_cons_zero, List.getElem?_cons_succ] at f0 f1 f2 f3 f4 f5 f6 f7 f8
    go_wp2_with fail
    refine (small_any wA d0 (.slice Ar kr cr) HBA.out HL.out.1 HL.out.2).mono ?_; rintro e wB ⟨rfl, hbB⟩
    clear f0 f1 f2 f3 f4 f5 f6 f7 f8
    rw [hs]
    have HB := Lib.hid (HA.out.trans (hbB.mono HA.out.size))
    have HRB := Lib.hid (Below.row hbB HRA.out HRA.out.lt)
    have HBB := Lib.hid (HBA.out.up hbB)
    clear hbB HA HRA HBA
    go_wp2_with fail
    refine (bare_any _).mono ?_; rintro e wZ ⟨rfl, hbZ⟩
    have HZ := Lib.hid (HB.out.trans (hbZ.mono HB.out.size))
    clear hbZ
    go_wp2_with fail
    go_ret
    exact ⟨rfl, by rw [← HG0.out] at HZ ⊢; exact HZ.out⟩
  | true =>
    have HS := Lib.hid hs
    by_cases hbig : 40 < len4
    · go_enter Try.func5, Try.ntmps5
      go_upto_region 1 with (fail)
      obtain ⟨g0, hg0⟩ : ∃ n, n = w.heap.size := ⟨_, rfl⟩
      rw [← hg0] at HRW ⊢
      have HG0 : Hid (g0 = w.heap.size) := hg0
      generalize w.alloc (.cells #[.int .u8 (d0.form : Int), .int .u8 (d0.len : Int), .int .u8 (d0.speed : Int), .int .u16 (d0.mute : Int), .int .u16 (d0.wait : Int), .int .u8 (d0.cancel : Int), .int .u8 (d0.stay : Int), .int .u8 (d0.join : Int), .slice Ar kr cr] 25) = W0 at *
      clear hg0
      go_wp2_with fail
      refine (bare_any _).mono ?_; rintro e wA ⟨rfl, hbA⟩
      have HA := Lib.hid (HB0.out.trans (hbA.mono HB0.out.size))
      have HRA := Lib.hid (Below.row hbA HRW.out HRW.out.lt)
      have HBA := Lib.hid (HBR.out.up hbA)
      clear hbA HB0 HRW HBR
      have f0 := HRA.out.cell 0
      have f1 := HRA.out.cell 1
      have f2 := HRA.out.cell 2
      have f3 := HRA.out.cell 3
      have f4 := HRA.out.cell 4
      have f5 := HRA.out.cell 5
      have f6 := HRA.out.cell 6
      have f7 := HRA.out.cell 7
      have f8 := HRA.out.cell 8
      simp only [List.getElem?_toArray, List.getElem?_cons_zero, List.getElem?_cons_succ] at f0 f1 f2 f3 f4 f5 f6 f7 f8
      go_wp2_with fail
      refine (small_any wA d0 (.slice Ar kr cr) HBA.out HL.out.1 HL.out.2).mono ?_; rintro e wB ⟨rfl, hbB⟩
      clear f0 f1 f2 f3 f4 f5 f6 f7 f8
      rw [hs]
      have HB := Lib.hid (HA.out.trans (hbB.mono HA.out.size))
      have HRB := Lib.hid (Below.row hbB HRA.out HRA.out.lt)
      have HBB := Lib.hid (HBA.out.up hbB)
      clear hbB HA HRA HBA
      go_wp2_with fail
      refine (bare_any _).mono ?_; rintro e wZ ⟨rfl, hbZ⟩
      have HZ := Lib.hid (HB.out.trans (hbZ.mono HB.out.size))
      clear hbZ
      go_wp2_with fail
      go_ret
      exact ⟨rfl, by rw [← HG0.out] at HZ ⊢; exact HZ.out⟩
    have hsml : len4 ≤ 40 := by omega
    have HQL4 : Hid (q4.length ≤ 40) := by show _ ≤ _; have := HQE4.out; omega
    clear hbig
    go_enter Try.func5, Try.ntmps5
    go_upto_region 1 with (fail)
    obtain ⟨g0, hg0⟩ : ∃ n, n = w.heap.size := ⟨_, rfl⟩
    rw [← hg0] at HRW ⊢
    have HG0 : Hid (g0 = w.heap.size) := hg0
    generalize w.alloc (.cells #[.int .u8 (d0.form : Int), .int .u8 (d0.len : Int), .int .u8 (d0.speed : Int), .int .u16 (d0.mute : Int), .int .u16 (d0.wait : Int), .int .u8 (d0.cancel : Int), .int .u8 (d0.stay : Int), .int .u8 (d0.join : Int), .slice Ar kr cr] 25) = W0 at *
    clear hg0
    go_wp2_with fail
    refine (bare_any _).mono ?_; rintro e wA ⟨rfl, hbA⟩
    have HA := Lib.hid (HB0.out.trans (hbA.mono HB0.out.size))
    have HRA := Lib.hid (Below.row hbA HRW.out HRW.out.lt)
    have HBA := Lib.hid (HBR.out.up hbA)
    clear hbA HB0 HRW HBR
    have f0 := HRA.out.cell 0
    have f1 := HRA.out.cell 1
    have f2 := HRA.out.cell 2
    have f3 := HRA.out.cell 3
    have f4 := HRA.out.cell 4
    have f5 := HRA.out.cell 5
    have f6 := HRA.out.cell 6
    have f7 := HRA.out.cell 7
    have f8 := HRA.out.cell 8
    simp only [List.getElem?_toArray, List.getElem?_cons_zero, List.getElem?_cons_succ] at f0 f1 f2 f3 f4 f5 f6 f7 f8
    go_wp2_with fail
    refine (small_any wA d0 (.slice Ar kr cr) HBA.out HL.out.1 HL.out.2).mono ?_; rintro e wB ⟨rfl, hbB⟩
    clear f0 f1 f2 f3 f4 f5 f6 f7 f8
    rw [hs]
    have HB := Lib.hid (HA.out.trans (hbB.mono HA.out.size))
    have HRB := Lib.hid (Below.row hbB HRA.out HRA.out.lt)
    have HBB := Lib.hid (HBA.out.up hbB)
    clear hbB HA HRA HBA
    have f0 := HRB.out.cell 0
    have f1 := HRB.out.cell 1
    have f2 := HRB.out.cell 2
    have f3 := HRB.out.cell 3
    have f4 := HRB.out.cell 4
    have f5 := HRB.out.cell 5
    have f6 := HRB.out.cell 6
    have f7 := HRB.out.cell 7
    have f8 := HRB.out.cell 8
    simp only [List.getElem?_toArray, List.getElem?_cons_zero, List.getElem?_cons_succ] at f0 f1 f2 f3 f4 f5 f6 f7 f8
    go_wp2_with fail
    refine (rough_any wB d0 (.slice Ar kr cr) HDK.out HBB.out hs).mono ?_; rintro e wC ⟨vL, rfl, hvL, hbvL⟩
    clear f0 f1 f2 f3 f4 f5 f6 f7 f8
    have HC := Lib.hid (HB.out.trans (hbvL.mono HB.out.size))
    have HVL := Lib.hid hvL
    clear hvL hbvL HB HRB HBB
    obtain ⟨L, hL⟩ : ∃ L, L = roughL d0 := ⟨_, rfl⟩
    have HLR := Lib.hid hL
    rw [← hL] at HVL
    clear hL
    go_wp2_with fail
    refine (refEncode_any wC vL L HVL.out (by rw [HLR.out]; exact rough_modest HS.out)).mono ?_; rintro e wD ⟨vp, rfl, hop, hbD⟩
    have HD := Lib.hid (HC.out.trans (hbD.mono HC.out.size))
    clear hbD HC HVL
    obtain ⟨Q, hQ⟩ : ∃ Q, Q = pack (enc L) := ⟨_, rfl⟩
    rw [← hQ] at hop
    have HQ := Lib.hid hQ
    obtain ⟨m, hm⟩ : ∃ m, Q.length = m := ⟨_, rfl⟩
    have HM := Lib.hid hm
    have hm1 : m ≤ 500 := by rw [← hm, hQ, HLR.out]; exact rough_bytes HS.out
    have hm2 : 2 ≤ m := by rw [← hm, hQ]; exact enc_two L
    have HQS : Hid (∀ z ∈ Q, z < 256) := by rw [hQ]; exact pack_small _
    have HOP := Lib.hid (Rd.of_own hop)
    clear hop hQ hm
    go_wp2_with fail
    refine (join_any wD wD.heap.size vp (.slice none 0 0) (closed Q) [] HOP.out (Rd.empty _ _) (Nat.le_refl _) (by rw [closed_length, HM.out]; omega) (by simp)).mono ?_; rintro e wE ⟨vj, rfl, hoj, hbE⟩
    rw [List.append_nil, closed_length, HM.out] at hoj
    have HE := Lib.hid (HD.out.trans (hbE.mono HD.out.size))
    obtain ⟨gj, cj, hvj, hgj⟩ : ∃ g c, vj = .slice (some ⟨g, 0, none⟩) (m + 2) c ∧ wD.heap.size ≤ g := by
      rcases hoj.2 with ⟨_, e0⟩ | ⟨g, cap, cur, e0, hg, _⟩
      · omega
      · exact ⟨g, cap, e0, hg⟩
    subst hvj
    have hcap : m + 2 ≤ cj := own_cap hoj
    have HGW : Hid (w.heap.size ≤ gj) := Nat.le_trans HD.out.size hgj
    obtain ⟨a, HK⟩ : ∃ k, Hid (n1 % m = k ∧ k < m) := ⟨_, rfl, Nat.mod_lt _ (by omega)⟩
    have ha : a < m := HK.out.2
    have hk1 : (n1 : Int).tmod (m : Int) = (a : Int) := by rw [Int.tmod_eq_emod_of_nonneg (by omega)]; have := HK.out.1; rw [← this]; simp
    have hk2 : (n1 : Int) % (m : Int) = (a : Int) := by have := HK.out.1; rw [← this]; simp
    obtain ⟨x, hx⟩ : ∃ x, Q.getD a 0 = x := ⟨_, rfl⟩
    have hxe : (closed Q)[a]? = some x := by
      unfold closed
      rw [List.getElem?_append_left (by have := HM.out; omega), ← hx]
      simp [List.getD, show a < Q.length by have := HM.out; omega]
    have hx2 : x < 256 := by
      have : x = Q[a]'(by have := HM.out; omega) := by rw [← hx]; simp [List.getD, show a < Q.length by have := HM.out; omega]
      rw [this]; exact HQS.out _ (List.getElem_mem _)
    have HX := Lib.hid hx; have HXE := Lib.hid hxe
    clear hx hxe
    have cx : wE.cell? ⟨gj, a, none⟩ = some (.int .u8 (x : Int)) := by
      rw [hoj.cellAt a (by omega)]
      show (bvals (closed Q))[a]? = _
      unfold bvals
      rw [List.getElem?_map, HXE.out]; rfl
    have zx := hoj.frozenAt a
    have hxor := xor_byte x t2 hx2 ht2
    obtain ⟨PQ, hPQ⟩ : ∃ P, P = (closed Q).set a (Q.getD a 0 ^^^ t2) := ⟨_, rfl⟩
    have HPQ := Lib.hid hPQ
    have HPL : Hid (PQ.length = m + 2) := by show _ = _; rw [hPQ, List.length_set, closed_length, HM.out]
    have hoF : (wE.setCell ⟨gj, a, none⟩ (.int .u8 ((x ^^^ t2 : Nat) : Int))).ownsRow wD.heap.size 5 1 (.slice (some ⟨gj, 0, none⟩) (m + 2) cj) (m + 2) (bvals PQ) := by
      have h := (hoj.stored a (.int .u8 ((x ^^^ t2 : Nat) : Int))).1
      have e : (bvals (closed Q)).set a (.int .u8 ((x ^^^ t2 : Nat) : Int)) = bvals PQ := by rw [hPQ, HX.out]; unfold bvals; rw [List.map_set]
      rw [e] at h; exact h
    have HOF := Lib.hid hoF
    have HRD : Hid (Rd (wE.setCell ⟨gj, a, none⟩ (.int .u8 ((x ^^^ t2 : Nat) : Int))) (wE.setCell ⟨gj, a, none⟩ (.int .u8 ((x ^^^ t2 : Nat) : Int))).heap.size (.slice (some ⟨gj, 0, none⟩) (m + 2) cj) (bvals PQ)) := by
      have h := hoF
      exact Rd.of_own h
    have HF : Hid (Below w.heap.size w (wE.setCell ⟨gj, a, none⟩ (.int .u8 ((x ^^^ t2 : Nat) : Int)))) := HE.out.setCell (p := ⟨gj, a, none⟩) HGW.out _
    have HRM : Hid (Rd (wE.setCell ⟨gj, a, none⟩ (.int .u8 ((x ^^^ t2 : Nat) : Int))) (wE.setCell ⟨gj, a, none⟩ (.int .u8 ((x ^^^ t2 : Nat) : Int))).heap.size (.slice a4 len4 cap4) (bvals q4)) := HRD4.out.up HF.out
    have HPS : Hid (∀ z ∈ PQ, z < 256) := fun z hz => by
      rw [hPQ] at hz
      rcases List.mem_or_eq_of_mem_set hz with h | h
      · exact closed_small HQS.out z h
      · rw [h, HX.out]; exact Nat.xor_lt_two_pow (n := 8) hx2 ht2
    clear hPQ hoF hoj hbE HD HE HOP
    go_upto_region 6 with (fail)
    clear hk1 hk2 cx zx hxor
    generalize (wE.setCell ⟨gj, a, none⟩ (.int .u8 ((x ^^^ t2 : Nat) : Int))) = wF at *
    cases a5 with
    | false =>
      have HDC : Hid ((t2 = 0 ∧ (dec PQ).2 = 0) ∨ (t2 ≠ 0 ∧ (dec PQ).2 = 3)) := by
        by_cases h0 : t2 = 0
        · refine Or.inl ⟨h0, ?_⟩
          have e : PQ = closed Q := by
            rw [HPQ.out, h0, Nat.xor_zero, HX.out]
            have h1 := HXE.out
            apply List.ext_getElem?
            intro j
            rw [List.getElem?_set]
            split
            · rename_i hj
              subst hj
              split
              · exact h1.symm
              · rename_i hn; rw [closed_length, HM.out] at hn; omega
            · rfl
          rw [e, HQ.out, dec_enc L (by rw [HLR.out]; exact rough_room HS.out)]
        · refine Or.inr ⟨h0, ?_⟩
          have hne := byte_shown Q HQS.out a t2 (by have := HM.out; omega) ht2 h0 PQ HPQ.out
          unfold dec
          rw [if_neg (by have := HPL.out; omega), if_pos hne]
      have HFD := Lib.hid (few_dec PQ)
      go_wp2_with fail
      refine (decode_any wF _ PQ HRD.out HPS.out (by have := HPL.out; omega)).mono ?_; rintro e wG ⟨v1, rfl, hv1, hbG⟩
      have HG := Lib.hid (HF.out.trans (hbG.mono HF.out.size))
      have HRG := Lib.hid (HRD.out.up hbG)
      obtain ⟨B0, j0, d0, B1, j1, d1, B2, j2, d2, B3, j3, d3, B4, j4, d4, hav⟩ := hv1.agg
      subst hav
      clear hbG hv1
      generalize (dec PQ).1.speed = t0 at *
      generalize (dec PQ).1.mute = t1 at *
      generalize (dec PQ).1.wait = t9 at *
      generalize (dec PQ).1.cancel = t3 at *
      generalize (dec PQ).1.stay = t4 at *
      obtain ⟨E, hE⟩ : ∃ E, (dec PQ).2 = E := ⟨_, rfl⟩
      rw [hE] at HDC ⊢
      clear hE
      have hb4 := (Below.refl wG.heap.size wG).alloc (Nat.le_refl _) (.cells #[.slice B0 j0 d0, .slice B1 j1 d1, .slice B2 j2 d2, .slice B3 j3 d3, .slice B4 j4 d4, .int .i64 t0, .int .i64 t1, .int .i64 t9, .int .i64 t3, .int .i64 t4] 33)
      have HH := Lib.hid (HG.out.trans (hb4.mono HG.out.size))
      have HRH := Lib.hid (HRG.out.up hb4)
      clear hb4 HG HRG
      go_upto_region 8 with (fail)
      generalize wG.alloc (.cells #[.slice B0 j0 d0, .slice B1 j1 d1, .slice B2 j2 d2, .slice B3 j3 d3, .slice B4 j4 d4, .int .i64 t0, .int .i64 t1, .int .i64 t9, .int .i64 t3, .int .i64 t4] 33) = wH at *
      go_wp2_with fail
      refine (reads_any wH _ PQ HRH.out HPS.out (by have := HPL.out; omega)).mono ?_; rintro e wI ⟨rfl, hbI⟩
      have HI := Lib.hid (HH.out.trans (hbI.mono HH.out.size))
      clear hbI
      rcases HDC.out with ⟨h1, h2⟩ | ⟨h1, h2⟩
      · subst h1; subst h2
        go_wp2_with fail
        go_ret
        exact ⟨rfl, by rw [← HG0.out] at HI ⊢; exact HI.out⟩
      · subst h2
        have hz1 : ((t2 : Int) == 0) = false := by simp; omega
        have hz2 : ((t2 : Int) != 0) = true := by simp; omega
        have hz3 : ¬ (t2 : Int) = 0 := by omega
        go_wp2_with fail
        go_ret
        exact ⟨rfl, by rw [← HG0.out] at HI ⊢; exact HI.out⟩
    | true =>
      obtain ⟨r3, HR3⟩ : ∃ k, Hid (c3 % m = k ∧ k < m) := ⟨_, rfl, Nat.mod_lt _ (by omega)⟩
      have hr3 : r3 < m := HR3.out.2
      have hc1 : (c3 : Int).tmod (m : Int) = (r3 : Int) := by rw [Int.tmod_eq_emod_of_nonneg (by omega)]; have := HR3.out.1; rw [← this]; simp
      have hc2 : (c3 : Int) % (m : Int) = (r3 : Int) := by have := HR3.out.1; rw [← this]; simp
      rcases (show c3 % 2 = 1 ∨ c3 % 2 = 0 by omega) with hp | hp
      · have hp1 : (c3 : Int) % 2 = 1 := by omega
        have hp2 : (c3 : Int).tmod 2 = 1 := by rw [Int.tmod_eq_emod_of_nonneg (by omega)]; omega
        obtain ⟨k5, hk5⟩ : ∃ k, m = k + r3 := ⟨m - r3, by omega⟩
        have hks : (m : Int) - (r3 : Int) = (k5 : Int) := by omega
        have HK5 := Lib.hid hk5
        clear hk5 hp
        go_wp2_with fail
        clear hp1 hp2 hc1 hc2 hks
        have hk5 := HK5.out
        refine (join_any wF wF.heap.size (.slice (some ⟨gj, 0, none⟩) k5 cj) (.slice a4 len4 cap4) (PQ.take k5) q4 (rd_take_b HRD.out k5 (by have := HPL.out; omega)) HRM.out (Nat.le_refl _) (by have := HPL.out; rw [List.length_take]; omega) (by have := HQL4.out; omega)).mono ?_; rintro e wG ⟨vg, rfl, hog, hbG⟩
        have HG := Lib.hid (HF.out.trans (hbG.mono HF.out.size))
        have HOG := Lib.hid (Rd.of_own hog)
        clear hbG hog
        have HSM : Hid (∀ z ∈ PQ.take k5 ++ q4, z < 256) := fun z hz => by
          rcases List.mem_append.1 hz with c | c
          · exact HPS.out z (List.mem_of_mem_take c)
          · exact HSM4.out z c
        have HLN : Hid ((PQ.take k5 ++ q4).length ≤ 600) := by show _ ≤ _; have h1 := HPL.out; have h2 := HQL4.out; rw [List.length_append, List.length_take]; omega
        go_wp2_with fail
        refine (refClose_any wG wG.heap.size _ (PQ.take k5 ++ q4) HOG.out (Nat.le_refl _) HSM.out (by have := HLN.out; omega)).mono ?_; rintro e wH ⟨vh, rfl, hoh, hbH⟩
        have HH := Lib.hid (HG.out.trans (hbH.mono HG.out.size))
        have HOH := Lib.hid (Rd.of_own hoh)
        clear hbH hoh
        go_wp2_with fail
        refine (reads_any wH vh (closed (PQ.take k5 ++ q4)) HOH.out (closed_small HSM.out) (by have := HLN.out; rw [closed_length]; omega)).mono ?_; rintro e wI ⟨rfl, hbI⟩
        have HI := Lib.hid (HH.out.trans (hbI.mono HH.out.size))
        clear hbI
        go_wp2_with fail
        go_ret
        exact ⟨rfl, by rw [← HG0.out] at HI ⊢; exact HI.out⟩
      · have hp1 : (c3 : Int) % 2 = 0 := by omega
        have hp2 : (c3 : Int).tmod 2 = 0 := by rw [Int.tmod_eq_emod_of_nonneg (by omega)]; omega
        clear hp
        go_wp2_with fail
        clear hp1 hp2 hc1 hc2
        refine (join_any wF wF.heap.size (.slice (some ⟨gj, 0, none⟩) m cj) (.slice a4 len4 cap4) (PQ.take m) q4 (rd_take_b HRD.out m (by have := HPL.out; omega)) HRM.out (Nat.le_refl _) (by have := HPL.out; rw [List.length_take]; omega) (by have := HQL4.out; omega)).mono ?_; rintro e wG ⟨vg, rfl, hog, hbG⟩
        have HG := Lib.hid (HF.out.trans (hbG.mono HF.out.size))
        have HOG := Lib.hid (Rd.of_own hog)
        clear hbG hog
        have HSM : Hid (∀ z ∈ PQ.take m ++ q4, z < 256) := fun z hz => by
          rcases List.mem_append.1 hz with c | c
          · exact HPS.out z (List.mem_of_mem_take c)
          · exact HSM4.out z c
        have HLN : Hid ((PQ.take m ++ q4).length ≤ 600) := by show _ ≤ _; have h1 := HPL.out; have h2 := HQL4.out; rw [List.length_append, List.length_take]; omega
        go_wp2_with fail
        refine (refClose_any wG wG.heap.size _ (PQ.take m ++ q4) HOG.out (Nat.le_refl _) HSM.out (by have := HLN.out; omega)).mono ?_; rintro e wH ⟨vh, rfl, hoh, hbH⟩
        have HH := Lib.hid (HG.out.trans (hbH.mono HG.out.size))
        have HOH := Lib.hid (Rd.of_own hoh)
        clear hbH hoh
        go_wp2_with fail
        refine (reads_any wH vh (closed (PQ.take m ++ q4)) HOH.out (closed_small HSM.out) (by have := HLN.out; rw [closed_length]; omega)).mono ?_; rintro e wI ⟨rfl, hbI⟩
        have HI := Lib.hid (HH.out.trans (hbI.mono HH.out.size))
        clear hbI
        go_wp2_with fail
        go_ret
        exact ⟨rfl, by rw [← HG0.out] at HI ⊢; exact HI.out⟩

theorem lifted (os : Os) (started : os.Started) (H : Type) (enc : TypeId × Value → H) :
    ReturnsInHanded {} Try.checked os 5 .any (Rows.layoutTurnedSpec.pre6 enc Try.prog Try.f5 Rows.layoutTurnedRow.domain false) (Rows.layoutTurnedSpec.post enc Try.prog Try.f5 false true false false) := by
  refine returnsInHanded_of_change (C := Try.checked) own started (by kernel_rfl) Try.func5
    (ChangeSpec.witness6 (enc := enc) (C := Try.checked) false ⟨#[], #[.agg #[.int .u8 0, .int .u8 0, .int .u8 0, .int .u16 0, .int .u16 0, .int .u8 0, .int .u8 0, .int .u8 0, .slice none 0 0], .int .u16 0, .int .u8 0, .int .u8 0, .slice none 0 0, .bool false], []⟩ 8 (by kernel_rfl) (by kernel_rfl) (by kernel_rfl) (by kernel_rfl)) ?_
  intro W base args ds gs before hval0 hW hcnd _
  have hval : ∀ (j : Nat) t v, Try.f5.params[j]? = some t → args[j]? = some v → Value.okWide Try.prog W .any base t v := hval0
  have hW' := hW
  obtain ⟨p, q, hA0, hV, rfl, hfz, hnd⟩ := hW
  have hA : DataW.TrodAll enc Try.prog W 0 (fun _ => true) true Try.f5.params.toList args.toList ds p := hA0
  rw [Try.params5] at hA hval
  obtain ⟨v0, vs0, d0, ds0, p0, q0, hargs, rfl, rfl, h0, r0⟩ := trodAll_cons hA
  obtain ⟨v1, vs1, d1, ds1, p1, q1, rfl, rfl, rfl, h1, r1⟩ := trodAll_cons r0
  obtain ⟨v2, vs2, d2, ds2, p2, q2, rfl, rfl, rfl, h2, r2⟩ := trodAll_cons r1
  obtain ⟨v3, vs3, d3, ds3, p3, q3, rfl, rfl, rfl, h3, r3⟩ := trodAll_cons r2
  obtain ⟨v4, vs4, d4, ds4, p4, q4, rfl, rfl, rfl, h4, r4⟩ := trodAll_cons r3
  obtain ⟨v5, vs5, d5, ds5, p5, q5, rfl, rfl, rfl, h5, r5⟩ := trodAll_cons r4
  obtain ⟨rfl, rfl, rfl⟩ := trodAll_nil r5
  obtain rfl : args = #[v0, v1, v2, v3, v4, v5] := by cases args; simp_all
  obtain ⟨rfl, rfl⟩ := trodVars_none hV
  have k0 := h0
  have lt0 : ∀ x ∈ p0, x.block < W.heap.size := by obtain ⟨m, hm⟩ := k0; exact DataW.trod_lt m _ _ _ hm
  obtain ⟨e0, vr0, hv0, w0⟩ := draft_of_trod (hval 0 25 v0 rfl rfl) h0
  subst hv0
  obtain ⟨a1, rfl, rfl, rfl, w1⟩ := open_int Try.underlying22 (hval 1 22 v1 rfl rfl) h1
  obtain ⟨a2, rfl, rfl, rfl, w2⟩ := open_int Try.underlying5 (hval 2 5 v2 rfl rfl) h2
  obtain ⟨a3, rfl, rfl, rfl, w3⟩ := open_int Try.underlying5 (hval 3 5 v3 rfl rfl) h3
  obtain ⟨a4, len4, cap4, rfl⟩ := okWide_slice Try.underlying35 (hval 4 35 v4 rfl rfl)
  have k4 := h4
  have lt4 : ∀ x ∈ p4, x.block < W.heap.size := by obtain ⟨m, hm⟩ := k4; exact DataW.trod_lt m _ _ _ hm
  obtain ⟨z4, w4⟩ : ∃ zs, IsRow .u8 W a4 len4 cap4 zs := by
    obtain ⟨fuel, hf⟩ := h4
    rcases open_ints Try.underlying35 Try.underlying5 (by kernel_rfl) hf with ⟨hcs, _⟩ | ⟨x, l, c, zs, hcs, _, hl, hm, hz, _, hcell, hwz⟩
    · simp [Value.cells] at hcs
      obtain ⟨rfl, rfl, rfl⟩ := hcs
      exact ⟨[], .inl ⟨rfl, rfl, rfl, rfl⟩⟩
    · simp [Value.cells] at hcs
      obtain ⟨rfl, rfl, rfl⟩ := hcs
      exact ⟨zs, .inr ⟨_, rfl, hl, hm, by simpa using hz, hcell, hwz⟩⟩
  obtain ⟨a5, rfl, rfl, rfl⟩ := open_bool Try.underlying4 (hval 5 4 v5 rfl rfl) h5
  clear hA0 hval0
  refine (walk e0 vr0 a1 a2 a3 a4 len4 cap4 z4 a5 W w0 w1 w2 w3 w4).mono fun e W' ⟨he, bel⟩ => ?_
  subst he
  exact ⟨_, rfl, _, _, _, [], _, [], hW', trodAll_mk1 (shut_bool Try.underlying4 _), (trodAll_cons_mk (Below.trod laidOut (by kernel_rfl) (of_decide_eq_true (by kernel_rfl)) k0 bel lt0) (trodAll_cons_mk (shut_int Try.underlying22 w1) (trodAll_cons_mk (shut_int Try.underlying5 w2) (trodAll_cons_mk (shut_int Try.underlying5 w3) (trodAll_cons_mk (Below.trod laidOut (by kernel_rfl) (of_decide_eq_true (by kernel_rfl)) k4 bel lt4) (trodAll_cons_mk (shut_bool Try.underlying4 _) trodAll_mk0)))))), rfl, bel.frame _, fun h => by cases h⟩

theorem over : Rows.layoutTurnedRow.holds Try.pinned (OpenSpec.ofChange Rows.layoutTurnedSpec) :=
  OpenClaim.holds_of_wide 5 Try.f5 rfl rfl rfl rfl rfl rfl rfl ⟨rfl, rfl, rfl, rfl, rfl⟩ rfl rfl rfl rfl rfl (by kernel_rfl) Try.func5 (by kernel_rfl)
    (of_decide_eq_true (by kernel_rfl)) (by unfold Func.isWrapper; first | (rw [if_pos (by decide +kernel)]; kernel_rfl) | (rw [if_neg (by decide +kernel)]; exact ⟨rfl, rfl⟩))
    (fun os started H enc _ => lifted os started H enc)

theorem proved : Rows.LayoutTurnedSaid := over
#print axioms proved
end Go.Proofs.Ythpfhcelmddjlaa.layoutTurned
