/-
  PROVED: for every input the law MessageNumbers returns true and leaves its arguments as they were: of any numbers their lowest bits are laid, as the document lays them, and what was laid is read as the document reads it. No condition.
-/
import Derived.Test.YtcfnaajnkloobaaRows
import Derived.Test.YtcfnaajnkloobaaM12
import Derived.WalkKit
import Derived.ProofKit
import Derived.OpenShut
import Derived.ShutString
import Derived.ChangeOld
import Derived.Below
namespace Go.Proofs.Ytcfnaajnkloobaa.messageNumbers
open Go.ChangeShapes Go.WideShapes Go.ChangeAt Go.RowKit
open Go.ChangeMaps (open_string shut_string)
set_option linter.unusedVariables false
set_option maxRecDepth 100000

theorem own : ownKnob Try.prog.godebug = none := by kernel_rfl
theorem laidOut : laidOutB Try.prog = true := by kernel_rfl

/-- What is known of a slice of integers that came in: nil, or a row of 'cap' cells. -/
def IsRow (k : IntKind) (w : World) (a : Option Addr) (len cap : Nat) (zs : List Int) : Prop :=
  (a = none ∧ len = 0 ∧ cap = 0 ∧ zs = []) ∨
  ∃ x, a = some x ∧ len ≤ cap ∧ cap ≤ maxLen ∧ zs.length = cap ∧ (∀ i, i < zs.length → w.cell? (x.add i) = some (.int k (zs.getD i 0))) ∧ ∀ n ∈ zs, (Lit.int k n).wf = true

theorem arg_ints {w : World} {a : Option Addr} {len cap : Nat} {zs : List Int} (h : (a = none ∧ len = 0 ∧ cap = 0 ∧ zs = []) ∨
    ∃ x, a = some x ∧ len ≤ cap ∧ cap ≤ maxLen ∧ zs.length = cap ∧ (∀ i, i < zs.length → w.cell? (x.add i) = some (.int .i64 (zs.getD i 0))) ∧ ∀ n ∈ zs, (Lit.int .i64 n).wf = true) :
    ∃ q : List Int, q.length = len ∧ Rd w w.heap.size (.slice a len cap) (ivals q) := by
  rcases h with ⟨rfl, rfl, rfl, rfl⟩ | ⟨x, rfl, hl, _, hz, hc, hwz⟩
  · exact ⟨[], rfl, Rd.empty _ _⟩
  · have hlen : (zs.take len).length = len := by simp; omega
    have hvl : (ivals (zs.take len)).length = len := by simp [ivals]; omega
    refine ⟨zs.take len, hlen, ⟨some x, cap, by rw [hvl], ⟨(fun h => by cases h), by rw [hvl]; exact hl⟩, fun hp => ?_⟩⟩
    rw [hvl] at hp
    obtain ⟨b, o, rfl, hc'⟩ := ints_at hc (by omega)
    refine ⟨b, o, rfl, cell_lt (hc' 0 (by omega)), fun j u hu => ?_⟩
    have hj : j < len := by have := (List.getElem?_eq_some_iff.1 hu).1; rw [hvl] at this; exact this
    rw [hc' j (by omega), ← hu]
    simp [ivals, List.getD, hj, show j < zs.length by omega]

set_option maxHeartbeats 8000000 in
theorem walk (a0 : Int) (a1 : Int) (a2 : Int) (a3 : Int) (a4 : Int) (a5 : Option Addr) (len5 cap5 : Nat) (z5 : List Int) (w : World) (w0 : (Lit.int .u8 a0).wf = true) (w1 : (Lit.int .i64 a1).wf = true) (w2 : (Lit.int .i64 a2).wf = true) (w3 : (Lit.int .i64 a3).wf = true) (w4 : (Lit.int .i64 a4).wf = true) (w5 : IsRow .i64 w a5 len5 cap5 z5) :
    Calls Try.prog 6 #[.int .u8 a0, .int .i64 a1, .int .i64 a2, .int .i64 a3, .int .i64 a4, .slice a5 len5 cap5] w fun e w' => e = .returned (.bool true) ∧ Below w.heap.size w w' := by
  obtain ⟨k, rfl, hk⟩ := u8_nat w0
  obtain ⟨q5, hq5, hrd⟩ := arg_ints w5
  clear w0 w1 w2 w3 w4 w5
  have HRD := Lib.hid hrd; have HQ5 := Lib.hid hq5
  clear hrd hq5
  by_cases hbig : 15 < len5
  · go_enter Try.func6, Try.ntmps6
    go_wp2_with fail
    refine (open_any _).mono ?_; rintro e wA ⟨rfl, hbA⟩
    have HA := Lib.hid hbA; clear hbA
    go_wp2_with fail
    refine (open_any _).mono ?_; rintro e wB ⟨rfl, hbB⟩
    have HB := Lib.hid (HA.out.trans (hbB.mono HA.out.size)); clear hbB
    go_wp2_with fail
    go_ret
    exact ⟨rfl, HB.out⟩
  have hn : len5 ≤ 15 := by omega
  clear hbig
  obtain ⟨m, hm⟩ : ∃ m : Msg, m = ⟨k, a1, a2, a3, a4, false, q5⟩ := ⟨_, rfl⟩
  have HMV : Hid (∀ (W : World) (D : Nat), Rd W D (.slice a5 len5 cap5) (ivals q5) → MsgV W D (.agg #[.int .u8 (k : Int), .int .i64 a1, .int .i64 a2, .int .i64 a3, .int .i64 a4, .bool false, .slice a5 len5 cap5]) m) := fun W D h => by rw [hm]; exact ⟨_, rfl, h⟩
  have HMK : Hid (m.kind < 256 ∧ m.trail.length ≤ 15) := by rw [hm]; exact ⟨hk, by have := HQ5.out; show q5.length ≤ 15; omega⟩
  clear hm
  go_enter Try.func6, Try.ntmps6
  go_wp2_with fail
  refine (open_any _).mono ?_; rintro e wA ⟨rfl, hbA⟩
  have HA := Lib.hid hbA
  have HRA := Lib.hid (HRD.out.up hbA)
  clear hbA HRD
  have hb2 := (Below.refl wA.heap.size wA).alloc (Nat.le_refl _) (.cells #[.int .u8 (k : Int), .int .i64 a1, .int .i64 a2, .int .i64 a3, .int .i64 a4, .bool false, .slice a5 len5 cap5] 29)
  have HB2 := Lib.hid (HA.out.trans (hb2.mono HA.out.size))
  have HRB := Lib.hid (HRA.out.up hb2)
  have HR2 := Lib.hid (Row.new wA 29 #[.int .u8 (k : Int), .int .i64 a1, .int .i64 a2, .int .i64 a3, .int .i64 a4, .bool false, .slice a5 len5 cap5])
  clear hb2 HA HRA
  go_upto_region 4 with (fail)
  obtain ⟨n3, hn3⟩ : ∃ n, n = wA.heap.size := ⟨_, rfl⟩
  rw [← hn3] at HR2 ⊢
  clear hn3
  generalize wA.alloc (.cells #[.int .u8 (k : Int), .int .i64 a1, .int .i64 a2, .int .i64 a3, .int .i64 a4, .bool false, .slice a5 len5 cap5] 29) = W2 at *
  have f0 := HR2.out.cell 0
  have f1 := HR2.out.cell 1
  have f2 := HR2.out.cell 2
  have f3 := HR2.out.cell 3
  have f4 := HR2.out.cell 4
  have f5 := HR2.out.cell 5
  have f6 := HR2.out.cell 6
  simp only [List.getElem?_toArray, List.getElem?_cons_zero, List.getElem?_cons_succ] at f0 f1 f2 f3 f4 f5 f6
  go_wp2_with fail
  refine (encode_any W2 _ m (HMV.out _ _ HRB.out) HMK.out.1 (by have := HMK.out.2; omega)).mono ?_; rintro e W3 ⟨v3, rfl, ho3, hb3⟩
  have HQ : Hid (∀ x ∈ closed (pack (enc m)), x < 256) := closed_small (pack_small _)
  have HQL : Hid ((closed (pack (enc m))).length ≤ 40) := by show _ ≤ _; rw [closed_length]; have := enc_bytes HMK.out.2; omega
  obtain ⟨q, hq⟩ : ∃ q, closed (pack (enc m)) = q := ⟨_, rfl⟩
  rw [hq] at HQ HQL ho3
  have HQE := Lib.hid hq
  clear hq
  have HO3 := Lib.hid (Rd.of_own ho3)
  have HB3 := Lib.hid (HB2.out.trans (hb3.mono HB2.out.size))
  have HRC := Lib.hid (HRB.out.up hb3)
  have HR3 := Lib.hid (Below.row hb3 HR2.out HR2.out.lt)
  obtain ⟨A3, c3, hv3⟩ := own_slice ho3
  subst hv3
  clear f0 f1 f2 f3 f4 f5 f6
  clear ho3 hb3 HB2 HRB HR2
  obtain ⟨ql, hql⟩ : ∃ n, q.length = n := ⟨_, rfl⟩
  rw [hql] at HO3 ⊢
  clear hql
  have f0 := HR3.out.cell 0
  have f1 := HR3.out.cell 1
  have f2 := HR3.out.cell 2
  have f3 := HR3.out.cell 3
  have f4 := HR3.out.cell 4
  have f5 := HR3.out.cell 5
  have f6 := HR3.out.cell 6
  simp only [List.getElem?_toArray, List.getElem?_cons_zero, List.getElem?_cons_succ] at f0 f1 f2 f3 f4 f5 f6
  go_wp2_with fail
  refine (refEncode_any W3 _ m (HMV.out _ _ HRC.out) HMK.out.1 (by have := HMK.out.2; omega)).mono ?_; rintro e W7 ⟨v7, rfl, ho7, hb7⟩
  rw [HQE.out] at ho7
  have HB7 := Lib.hid (HB3.out.trans (hb7.mono HB3.out.size))
  have HO7 := Lib.hid (HO3.out.up hb7)
  have HP7 := Lib.hid (Rd.of_own ho7)
  clear f0 f1 f2 f3 f4 f5 f6
  clear hb7 ho7 HB3 HRC HR3 HO3
  go_wp2_with fail
  refine (refBytes_true W7 W7.heap.size _ v7 q HO7.out HP7.out (by have := HQL.out; omega)).mono ?_; rintro e W8 ⟨rfl, n8, hw8⟩
  have hb8 := below_drew hw8
  have HB8 := Lib.hid (HB7.out.trans (hb8.mono HB7.out.size))
  have HO8 := Lib.hid (HO7.out.up hb8)
  clear hw8 hb8 HB7 HO7 HP7
  go_wp2_with fail
  refine (reads_any W8 _ q HO8.out HQ.out (by have := HQL.out; omega)).mono ?_; rintro e W9 ⟨rfl, hb9⟩
  have HB9 := Lib.hid (HB8.out.trans (hb9.mono HB8.out.size))
  clear hb9
  go_wp2_with fail
  go_ret
  exact ⟨rfl, HB9.out⟩

theorem lifted (os : Os) (started : os.Started) (H : Type) (enc : TypeId × Value → H) :
    ReturnsInHanded {} Try.checked os 6 .any (Rows.messageNumbersSpec.pre6 enc Try.prog Try.f6 Rows.messageNumbersRow.domain false) (Rows.messageNumbersSpec.post enc Try.prog Try.f6 false true false false) := by
  refine returnsInHanded_of_change (C := Try.checked) own started (by kernel_rfl) Try.func6
    (ChangeSpec.witness6 (enc := enc) (C := Try.checked) false ⟨#[], #[.int .u8 0, .int .i64 0, .int .i64 0, .int .i64 0, .int .i64 0, .slice none 0 0], []⟩ 8 (by kernel_rfl) (by kernel_rfl) (by kernel_rfl) (by kernel_rfl)) ?_
  intro W base args ds gs before hval0 hW hcnd _
  have hval : ∀ (j : Nat) t v, Try.f6.params[j]? = some t → args[j]? = some v → Value.okWide Try.prog W .any base t v := hval0
  have hW' := hW
  obtain ⟨p, q, hA0, hV, rfl, hfz, hnd⟩ := hW
  have hA : DataW.TrodAll enc Try.prog W 0 (fun _ => true) true Try.f6.params.toList args.toList ds p := hA0
  rw [Try.params6] at hA hval
  obtain ⟨v0, vs0, d0, ds0, p0, q0, hargs, rfl, rfl, h0, r0⟩ := trodAll_cons hA
  obtain ⟨v1, vs1, d1, ds1, p1, q1, rfl, rfl, rfl, h1, r1⟩ := trodAll_cons r0
  obtain ⟨v2, vs2, d2, ds2, p2, q2, rfl, rfl, rfl, h2, r2⟩ := trodAll_cons r1
  obtain ⟨v3, vs3, d3, ds3, p3, q3, rfl, rfl, rfl, h3, r3⟩ := trodAll_cons r2
  obtain ⟨v4, vs4, d4, ds4, p4, q4, rfl, rfl, rfl, h4, r4⟩ := trodAll_cons r3
  obtain ⟨v5, vs5, d5, ds5, p5, q5, rfl, rfl, rfl, h5, r5⟩ := trodAll_cons r4
  obtain ⟨rfl, rfl, rfl⟩ := trodAll_nil r5
  obtain rfl : args = #[v0, v1, v2, v3, v4, v5] := by cases args; simp_all
  obtain ⟨rfl, rfl⟩ := trodVars_none hV
  obtain ⟨a0, rfl, rfl, rfl, w0⟩ := open_int Try.underlying5 (hval 0 5 v0 rfl rfl) h0
  obtain ⟨a1, rfl, rfl, rfl, w1⟩ := open_int Try.underlying3 (hval 1 3 v1 rfl rfl) h1
  obtain ⟨a2, rfl, rfl, rfl, w2⟩ := open_int Try.underlying3 (hval 2 3 v2 rfl rfl) h2
  obtain ⟨a3, rfl, rfl, rfl, w3⟩ := open_int Try.underlying3 (hval 3 3 v3 rfl rfl) h3
  obtain ⟨a4, rfl, rfl, rfl, w4⟩ := open_int Try.underlying3 (hval 4 3 v4 rfl rfl) h4
  obtain ⟨a5, len5, cap5, rfl⟩ := okWide_slice Try.underlying27 (hval 5 27 v5 rfl rfl)
  have k5 := h5
  have lt5 : ∀ x ∈ p5, x.block < W.heap.size := by obtain ⟨m, hm⟩ := k5; exact DataW.trod_lt m _ _ _ hm
  obtain ⟨z5, w5⟩ : ∃ zs, IsRow .i64 W a5 len5 cap5 zs := by
    obtain ⟨fuel, hf⟩ := h5
    rcases open_ints Try.underlying27 Try.underlying3 (by kernel_rfl) hf with ⟨hcs, _⟩ | ⟨x, l, c, zs, hcs, _, hl, hm, hz, _, hcell, hwz⟩
    · simp [Value.cells] at hcs
      obtain ⟨rfl, rfl, rfl⟩ := hcs
      exact ⟨[], .inl ⟨rfl, rfl, rfl, rfl⟩⟩
    · simp [Value.cells] at hcs
      obtain ⟨rfl, rfl, rfl⟩ := hcs
      exact ⟨zs, .inr ⟨_, rfl, hl, hm, by simpa using hz, hcell, hwz⟩⟩
  clear hA0 hval0
  refine (walk a0 a1 a2 a3 a4 a5 len5 cap5 z5 W w0 w1 w2 w3 w4 w5).mono fun e W' ⟨he, bel⟩ => ?_
  subst he
  exact ⟨_, rfl, _, _, _, [], _, [], hW', trodAll_mk1 (shut_bool Try.underlying4 _), (trodAll_cons_mk (shut_int Try.underlying5 w0) (trodAll_cons_mk (shut_int Try.underlying3 w1) (trodAll_cons_mk (shut_int Try.underlying3 w2) (trodAll_cons_mk (shut_int Try.underlying3 w3) (trodAll_cons_mk (shut_int Try.underlying3 w4) (trodAll_cons_mk (Below.trod laidOut (by kernel_rfl) (of_decide_eq_true (by kernel_rfl)) k5 bel lt5) trodAll_mk0)))))), rfl, bel.frame _, fun h => by cases h⟩

theorem over : Rows.messageNumbersRow.holds Try.pinned (OpenSpec.ofChange Rows.messageNumbersSpec) :=
  OpenClaim.holds_of_wide 6 Try.f6 rfl rfl rfl rfl rfl rfl rfl ⟨rfl, rfl, rfl, rfl, rfl⟩ rfl rfl rfl rfl rfl (by kernel_rfl) Try.func6 (by kernel_rfl)
    (of_decide_eq_true (by kernel_rfl)) (by unfold Func.isWrapper; first | (rw [if_pos (by decide +kernel)]; kernel_rfl) | (rw [if_neg (by decide +kernel)]; exact ⟨rfl, rfl⟩))
    (fun os started H enc _ => lifted os started H enc)

theorem proved : Rows.MessageNumbersSaid := over
#print axioms proved
end Go.Proofs.Ytcfnaajnkloobaa.messageNumbers
