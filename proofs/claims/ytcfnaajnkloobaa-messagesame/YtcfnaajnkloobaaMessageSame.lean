/-
  PROVED: for every input the law MessageSame returns true and leaves its arguments as they were: two messages are the Same, for the program as for the document, if nothing of them is another thing; one is the Same as itself, and not as one in which something is another thing. No condition.
-/
import Derived.Test.YtcfnaajnkloobaaRows
import Derived.Test.YtcfnaajnkloobaaM13
import Derived.WalkKit
import Derived.ProofKit
import Derived.OpenShut
import Derived.ShutString
import Derived.ChangeOld
import Derived.Below
import Derived.Deep.RegionHeld3
import Derived.Deep.CutBlock
namespace Go.Proofs.Ytcfnaajnkloobaa.messageSame
open Go.ChangeShapes Go.WideShapes Go.ChangeAt Go.RowKit
open Go.ChangeMaps (open_string shut_string)
set_option linter.unusedVariables false
set_option maxRecDepth 100000

theorem own : ownKnob Try.prog.godebug = none := by kernel_rfl
theorem laidOut : laidOutB Try.prog = true := by kernel_rfl

section

variable {P : Program} {ops : Array Oper} {Q : Exit → Act → World → Prop} {md : Region.Mode} {S : World → Prop} {t : Nat}

theorem any_two (i j : Nat) {oi oj : Oper} {n : Nat} {L : Array Bool} {a : Act} {w : World} (hi : ops[i]? = some oi) (hj : ops[j]? = some oj) (hr : Region.ready md ops L = [i, j]) (wi : Region.wanted oi (yielded ops a.tmps) = true) (wj : Region.wanted oj (yielded ops a.tmps) = true)
    (h1 : oi.wp P a w (fun a' w' => (i ≠ t → S w') ∧ AnyBut P md ops Q S t n (L.setIfInBounds i true) a' w') Q) (h2 : oj.wp P a w (fun a' w' => (j ≠ t → S w') ∧ AnyBut P md ops Q S t n (L.setIfInBounds j true) a' w') Q) : AnyBut P md ops Q S t (n + 1) L a w :=
  ⟨fun h0 => absurd (hr.symm.trans h0) (by simp), fun k hk => (by
    rw [hr] at hk
    simp only [List.mem_cons, List.not_mem_nil, or_false] at hk
    unfold wpOp
    rcases hk with e | e
    · rw [e]; simp only [hi, wi, if_true]; exact .inl h1
    · rw [e]; simp only [hj, wj, if_true]; exact .inl h2)⟩

theorem any_three (i j l : Nat) {oi oj ol : Oper} {n : Nat} {L : Array Bool} {a : Act} {w : World} (hi : ops[i]? = some oi) (hj : ops[j]? = some oj) (hl : ops[l]? = some ol) (hr : Region.ready md ops L = [i, j, l]) (wi : Region.wanted oi (yielded ops a.tmps) = true) (wj : Region.wanted oj (yielded ops a.tmps) = true) (wl : Region.wanted ol (yielded ops a.tmps) = true)
    (h1 : oi.wp P a w (fun a' w' => (i ≠ t → S w') ∧ AnyBut P md ops Q S t n (L.setIfInBounds i true) a' w') Q) (h2 : oj.wp P a w (fun a' w' => (j ≠ t → S w') ∧ AnyBut P md ops Q S t n (L.setIfInBounds j true) a' w') Q) (h3 : ol.wp P a w (fun a' w' => (l ≠ t → S w') ∧ AnyBut P md ops Q S t n (L.setIfInBounds l true) a' w') Q) : AnyBut P md ops Q S t (n + 1) L a w :=
  ⟨fun h0 => absurd (hr.symm.trans h0) (by simp), fun k hk => (by
    rw [hr] at hk
    simp only [List.mem_cons, List.not_mem_nil, or_false] at hk
    unfold wpOp
    rcases hk with e | e | e
    · rw [e]; simp only [hi, wi, if_true]; exact .inl h1
    · rw [e]; simp only [hj, wj, if_true]; exact .inl h2
    · rw [e]; simp only [hl, wl, if_true]; exact .inl h3)⟩

end

/-- Both boxes. -/
def Boxes (g0 g1 : Nat) (S0 S1 : Array Value) (w : World) : Prop := Row w g0 26 S0 ∧ Row w g1 26 S1

/-- What the law keeps: three messages, their trails. -/
structure Three (w W : World) (n7 n8 n9 : Nat) (m n x : Msg) (pA sA xA : Option Addr) (pl sl xl pc sc xc : Nat) : Prop where
  r7 : Row W n7 29 #[.int .u8 (m.kind : Int), .int .i64 m.train, .int .i64 m.time, .int .i64 m.dir, .int .i64 m.ahead, .bool m.whole, .slice pA pl pc]
  r8 : Row W n8 29 #[.int .u8 (n.kind : Int), .int .i64 n.train, .int .i64 n.time, .int .i64 n.dir, .int .i64 n.ahead, .bool n.whole, .slice sA sl sc]
  r9 : Row W n9 29 #[.int .u8 (x.kind : Int), .int .i64 x.train, .int .i64 x.time, .int .i64 x.dir, .int .i64 x.ahead, .bool x.whole, .slice xA xl xc]
  t7 : Tl W 3 (.slice pA pl pc) (ivals m.trail)
  t8 : Tl W 3 (.slice sA sl sc) (ivals n.trail)
  t9 : Tl W 3 (.slice xA xl xc) (ivals x.trail)
  below : Below w.heap.size w W

theorem Three.up {w W W' : World} {n7 n8 n9 : Nat} {m n x : Msg} {pA sA xA : Option Addr} {pl sl xl pc sc xc : Nat} (h : Three w W n7 n8 n9 m n x pA sA xA pl sl xl pc sc xc) (hb : Below W.heap.size W W') : Three w W' n7 n8 n9 m n x pA sA xA pl sl xl pc sc xc :=
  ⟨Below.row hb h.r7 h.r7.lt, Below.row hb h.r8 h.r8.lt, Below.row hb h.r9 h.r9.lt, h.t7.below hb, h.t8.below hb, h.t9.below hb, h.below.trans (hb.mono h.below.size)⟩
theorem Three.m7 {w W : World} {n7 n8 n9 : Nat} {m n x : Msg} {pA sA xA : Option Addr} {pl sl xl pc sc xc : Nat} (h : Three w W n7 n8 n9 m n x pA sA xA pl sl xl pc sc xc) : MsgV W W.heap.size (.agg #[.int .u8 (m.kind : Int), .int .i64 m.train, .int .i64 m.time, .int .i64 m.dir, .int .i64 m.ahead, .bool m.whole, .slice pA pl pc]) m := h.t7.msg
theorem Three.m8 {w W : World} {n7 n8 n9 : Nat} {m n x : Msg} {pA sA xA : Option Addr} {pl sl xl pc sc xc : Nat} (h : Three w W n7 n8 n9 m n x pA sA xA pl sl xl pc sc xc) : MsgV W W.heap.size (.agg #[.int .u8 (n.kind : Int), .int .i64 n.train, .int .i64 n.time, .int .i64 n.dir, .int .i64 n.ahead, .bool n.whole, .slice sA sl sc]) n := h.t8.msg
theorem Three.m9 {w W : World} {n7 n8 n9 : Nat} {m n x : Msg} {pA sA xA : Option Addr} {pl sl xl pc sc xc : Nat} (h : Three w W n7 n8 n9 m n x pA sA xA pl sl xl pc sc xc) : MsgV W W.heap.size (.agg #[.int .u8 (x.kind : Int), .int .i64 x.train, .int .i64 x.time, .int .i64 x.dir, .int .i64 x.ahead, .bool x.whole, .slice xA xl xc]) x := h.t9.msg

theorem Three.cells {w W : World} {n7 n8 n9 : Nat} {m n x : Msg} {pA sA xA : Option Addr} {pl sl xl pc sc xc : Nat} (h : Three w W n7 n8 n9 m n x pA sA xA pl sl xl pc sc xc) : W.cell? ⟨n7, 0, none⟩ = some (.int .u8 (m.kind : Int)) ∧ W.cell? ⟨n7, 1, none⟩ = some (.int .i64 m.train) ∧ W.cell? ⟨n7, 2, none⟩ = some (.int .i64 m.time) ∧ W.cell? ⟨n7, 3, none⟩ = some (.int .i64 m.dir) ∧ W.cell? ⟨n7, 4, none⟩ = some (.int .i64 m.ahead) ∧ W.cell? ⟨n7, 5, none⟩ = some (.bool m.whole) ∧ W.cell? ⟨n7, 6, none⟩ = some (.slice pA pl pc) ∧ W.cell? ⟨n8, 0, none⟩ = some (.int .u8 (n.kind : Int)) ∧ W.cell? ⟨n8, 1, none⟩ = some (.int .i64 n.train) ∧ W.cell? ⟨n8, 2, none⟩ = some (.int .i64 n.time) ∧ W.cell? ⟨n8, 3, none⟩ = some (.int .i64 n.dir) ∧ W.cell? ⟨n8, 4, none⟩ = some (.int .i64 n.ahead) ∧ W.cell? ⟨n8, 5, none⟩ = some (.bool n.whole) ∧ W.cell? ⟨n8, 6, none⟩ = some (.slice sA sl sc) ∧ W.cell? ⟨n9, 0, none⟩ = some (.int .u8 (x.kind : Int)) ∧ W.cell? ⟨n9, 1, none⟩ = some (.int .i64 x.train) ∧ W.cell? ⟨n9, 2, none⟩ = some (.int .i64 x.time) ∧ W.cell? ⟨n9, 3, none⟩ = some (.int .i64 x.dir) ∧ W.cell? ⟨n9, 4, none⟩ = some (.int .i64 x.ahead) ∧ W.cell? ⟨n9, 5, none⟩ = some (.bool x.whole) ∧ W.cell? ⟨n9, 6, none⟩ = some (.slice xA xl xc) := by
  have h7 := h.r7; have h8 := h.r8; have h9 := h.r9
  refine ⟨?_, ?_, ?_, ?_, ?_, ?_, ?_, ?_, ?_, ?_, ?_, ?_, ?_, ?_, ?_, ?_, ?_, ?_, ?_, ?_, ?_⟩
  · have := h7.cell 0; simpa using this
  · have := h7.cell 1; simpa using this
  · have := h7.cell 2; simpa using this
  · have := h7.cell 3; simpa using this
  · have := h7.cell 4; simpa using this
  · have := h7.cell 5; simpa using this
  · have := h7.cell 6; simpa using this
  · have := h8.cell 0; simpa using this
  · have := h8.cell 1; simpa using this
  · have := h8.cell 2; simpa using this
  · have := h8.cell 3; simpa using this
  · have := h8.cell 4; simpa using this
  · have := h8.cell 5; simpa using this
  · have := h8.cell 6; simpa using this
  · have := h9.cell 0; simpa using this
  · have := h9.cell 1; simpa using this
  · have := h9.cell 2; simpa using this
  · have := h9.cell 3; simpa using this
  · have := h9.cell 4; simpa using this
  · have := h9.cell 5; simpa using this
  · have := h9.cell 6; simpa using this

set_option maxHeartbeats 8000000 in
theorem walk (s0 : Sy) (vr0 : Value) (s1 : Sy) (vr1 : Value) (a2 : Int) (w : World) (w0 : SyOk s0 ∧ Rd w w.heap.size vr0 (bvals s0.trail)) (w1 : SyOk s1 ∧ Rd w w.heap.size vr1 (bvals s1.trail)) (w2 : (Lit.int .u8 a2).wf = true) :
    Calls Try.prog 7 #[sayV s0 vr0, sayV s1 vr1, .int .u8 a2] w fun e w' => e = .returned (.bool true) ∧ Below w.heap.size w w' := by
  obtain ⟨i3, hi3, hz30, hz31, hz32⟩ := info_parts Try.info3
  obtain ⟨a2n, rfl, ha2⟩ := u8_nat w2
  clear w2
  obtain ⟨hok0, hrd0⟩ := w0
  obtain ⟨A0, l0, c0, hvr0⟩ : ∃ A l c, vr0 = .slice A l c := by obtain ⟨A, c, e, _⟩ := hrd0; exact ⟨A, _, c, e⟩
  subst hvr0
  have HOK0 := Lib.hid hok0
  clear hok0
  obtain ⟨hok1, hrd1⟩ := w1
  obtain ⟨A1, l1, c1, hvr1⟩ : ∃ A l c, vr1 = .slice A l c := by obtain ⟨A, c, e, _⟩ := hrd1; exact ⟨A, _, c, e⟩
  subst hvr1
  have HOK1 := Lib.hid hok1
  clear hok1
  have hb0 := ((Below.refl w.heap.size w).alloc (Nat.le_refl _) (.cells #[.int .u8 (s0.kind : Int), .int .u8 (s0.train : Int), .int .u8 (s0.dir : Int), .int .u32 (s0.time : Int), .int .u16 (s0.ahead : Int), .bool s0.whole, .slice A0 l0 c0] 26)).alloc (by simp) (.cells #[.int .u8 (s1.kind : Int), .int .u8 (s1.train : Int), .int .u8 (s1.dir : Int), .int .u32 (s1.time : Int), .int .u16 (s1.ahead : Int), .bool s1.whole, .slice A1 l1 c1] 26)
  have HB := Lib.hid hb0
  have HD0 : Hid (∀ (U : World), Below w.heap.size w U → Rd U U.heap.size (.slice A0 l0 c0) (bvals s0.trail)) := fun U h => hrd0.up h
  have HD1 : Hid (∀ (U : World), Below w.heap.size w U → Rd U U.heap.size (.slice A1 l1 c1) (bvals s1.trail)) := fun U h => hrd1.up h
  have HR0 := Lib.hid ((Row.new w 26 #[.int .u8 (s0.kind : Int), .int .u8 (s0.train : Int), .int .u8 (s0.dir : Int), .int .u32 (s0.time : Int), .int .u16 (s0.ahead : Int), .bool s0.whole, .slice A0 l0 c0]).alloc (.cells #[.int .u8 (s1.kind : Int), .int .u8 (s1.train : Int), .int .u8 (s1.dir : Int), .int .u32 (s1.time : Int), .int .u16 (s1.ahead : Int), .bool s1.whole, .slice A1 l1 c1] 26))
  have HR1 : Hid (Row ((w.alloc (.cells #[.int .u8 (s0.kind : Int), .int .u8 (s0.train : Int), .int .u8 (s0.dir : Int), .int .u32 (s0.time : Int), .int .u16 (s0.ahead : Int), .bool s0.whole, .slice A0 l0 c0] 26)).alloc (.cells #[.int .u8 (s1.kind : Int), .int .u8 (s1.train : Int), .int .u8 (s1.dir : Int), .int .u32 (s1.time : Int), .int .u16 (s1.ahead : Int), .bool s1.whole, .slice A1 l1 c1] 26)) (w.heap.size + 1) 26 #[.int .u8 (s1.kind : Int), .int .u8 (s1.train : Int), .int .u8 (s1.dir : Int), .int .u32 (s1.time : Int), .int .u16 (s1.ahead : Int), .bool s1.whole, .slice A1 l1 c1]) := by
    have := Row.new (w.alloc (.cells #[.int .u8 (s0.kind : Int), .int .u8 (s0.train : Int), .int .u8 (s0.dir : Int), .int .u32 (s0.time : Int), .int .u16 (s0.ahead : Int), .bool s0.whole, .slice A0 l0 c0] 26)) 26 #[.int .u8 (s1.kind : Int), .int .u8 (s1.train : Int), .int .u8 (s1.dir : Int), .int .u32 (s1.time : Int), .int .u16 (s1.ahead : Int), .bool s1.whole, .slice A1 l1 c1]
    rw [World.size_alloc] at this; exact this
  clear hb0 hrd0 hrd1
  unfold sayV
  obtain ⟨m, hm⟩ : ∃ m, ofL s0 = m := ⟨_, rfl⟩
  obtain ⟨n, hn⟩ : ∃ n, ofL s1 = n := ⟨_, rfl⟩
  have HFM : Hid (Fits m) := by rw [← hm]; exact of_fits s0
  have HFN : Hid (Fits n) := by rw [← hn]; exact of_fits s1
  have HMM := Lib.hid hm; have HNN := Lib.hid hn
  clear hm hn
  go_enter Try.func7, Try.ntmps7
  go_upto_region 1 with (fail)
  obtain ⟨g0, hg0⟩ : ∃ x, x = w.heap.size := ⟨_, rfl⟩
  obtain ⟨g1, hg1⟩ : ∃ x, x = w.heap.size + 1 := ⟨_, rfl⟩
  rw [← hg1] at HR1 ⊢
  rw [← hg0] at HR0 ⊢
  clear hg0 hg1
  generalize (w.alloc (.cells #[.int .u8 (s0.kind : Int), .int .u8 (s0.train : Int), .int .u8 (s0.dir : Int), .int .u32 (s0.time : Int), .int .u16 (s0.ahead : Int), .bool s0.whole, .slice A0 l0 c0] 26)).alloc (.cells #[.int .u8 (s1.kind : Int), .int .u8 (s1.train : Int), .int .u8 (s1.dir : Int), .int .u32 (s1.time : Int), .int .u16 (s1.ahead : Int), .bool s1.whole, .slice A1 l1 c1] 26) = W0 at *
  go_cut [7, 8] (fun v7 v8 wx => ∃ n7 n8 pA pl pc sA sl sc, v7 = .pointer (some ⟨n7, 0, none⟩) ∧ v8 = .pointer (some ⟨n8, 0, none⟩) ∧ Hid (Row wx n7 29 #[.int .u8 (m.kind : Int), .int .i64 m.train, .int .i64 m.time, .int .i64 m.dir, .int .i64 m.ahead, .bool m.whole, .slice pA pl pc] ∧ Row wx n8 29 #[.int .u8 (n.kind : Int), .int .i64 n.train, .int .i64 n.time, .int .i64 n.dir, .int .i64 n.ahead, .bool n.whole, .slice sA sl sc] ∧ Tl wx 3 (.slice pA pl pc) (ivals m.trail) ∧ Tl wx 3 (.slice sA sl sc) (ivals n.trail) ∧ Row wx g0 26 #[.int .u8 (s0.kind : Int), .int .u8 (s0.train : Int), .int .u8 (s0.dir : Int), .int .u32 (s0.time : Int), .int .u16 (s0.ahead : Int), .bool s0.whole, .slice A0 l0 c0] ∧ Below w.heap.size w wx))
  case first =>
    have HBU0 : Hid (Below w.heap.size w W0.drew) := ⟨HB.out.os, HB.out.tape, HB.out.output, HB.out.size, HB.out.block⟩
    have HR0U0 : Hid (Row W0.drew g0 26 #[.int .u8 (s0.kind : Int), .int .u8 (s0.train : Int), .int .u8 (s0.dir : Int), .int .u32 (s0.time : Int), .int .u16 (s0.ahead : Int), .bool s0.whole, .slice A0 l0 c0]) := HR0.out
    have HR1U0 : Hid (Row W0.drew g1 26 #[.int .u8 (s1.kind : Int), .int .u8 (s1.train : Int), .int .u8 (s1.dir : Int), .int .u32 (s1.time : Int), .int .u16 (s1.ahead : Int), .bool s1.whole, .slice A1 l1 c1]) := HR1.out
    clear HB HR0 HR1
    refine AnyBut.region (Boxes g0 g1 #[.int .u8 (s0.kind : Int), .int .u8 (s0.train : Int), .int .u8 (s0.dir : Int), .int .u32 (s0.time : Int), .int .u16 (s0.ahead : Int), .bool s0.whole, .slice A0 l0 c0] #[.int .u8 (s1.kind : Int), .int .u8 (s1.train : Int), .int .u8 (s1.dir : Int), .int .u32 (s1.time : Int), .int .u16 (s1.ahead : Int), .bool s1.whole, .slice A1 l1 c1]) 7 (by kernel_rfl) ?_
    change AnyBut _ _ _ _ _ _ _ _ _ W0.drew
    generalize W0.drew = U0 at *
    refine AnyBut.take 0 (v := .agg #[.int .u8 (s0.kind : Int), .int .u8 (s0.train : Int), .int .u8 (s0.dir : Int), .int .u32 (s0.time : Int), .int .u16 (s0.ahead : Int), .bool s0.whole, .slice A0 l0 c0]) rfl (by kernel_rfl) (by kernel_rfl) (by kernel_rfl) (by kernel_rfl) (by decide) (fun _ _ _ h => h) (yields_of (by rfl) (fun w9 hS => (by have hr := hS.1; have s0 := hr.cell 0; have s1 := hr.cell 1; have s2 := hr.cell 2; have s3 := hr.cell 3; have s4 := hr.cell 4; have s5 := hr.cell 5; have s6 := hr.cell 6; simp only [List.getElem?_toArray, List.getElem?_cons_zero, List.getElem?_cons_succ] at s0 s1 s2 s3 s4 s5 s6; go_simp; try rfl))) ⟨HR0U0.out, HR1U0.out⟩ ?_
    refine AnyBut.take 2 (v := .agg #[.int .u8 (s1.kind : Int), .int .u8 (s1.train : Int), .int .u8 (s1.dir : Int), .int .u32 (s1.time : Int), .int .u16 (s1.ahead : Int), .bool s1.whole, .slice A1 l1 c1]) rfl (by kernel_rfl) (by kernel_rfl) (by kernel_rfl) (by kernel_rfl) (by decide) (fun _ _ _ h => h) (yields_of (by rfl) (fun w9 hS => (by have hr := hS.2; have s0 := hr.cell 0; have s1 := hr.cell 1; have s2 := hr.cell 2; have s3 := hr.cell 3; have s4 := hr.cell 4; have s5 := hr.cell 5; have s6 := hr.cell 6; simp only [List.getElem?_toArray, List.getElem?_cons_zero, List.getElem?_cons_succ] at s0 s1 s2 s3 s4 s5 s6; go_simp; try rfl))) ⟨HR0U0.out, HR1U0.out⟩ ?_
    refine any_three 1 4 5 rfl rfl rfl (by kernel_rfl) (by rfl) (by rfl) (by rfl) ?_ ?_ ?_
    · go_simp
      refine (ofSay_t U0 s0 _ HOK0.out (HD0.out U0 HBU0.out)).mono ?_
      rintro e U1 ⟨VV, rfl, hv, hb⟩
      rw [HMM.out] at hv ⊢
      obtain ⟨pA, pl, pc, hva⟩ := hv.slice
      subst hva
      unfold msgV
      have HBU1 := Lib.hid (HBU0.out.trans (hb.mono HBU0.out.size))
      have HR0U1 := Lib.hid (Below.row hb HR0U0.out HR0U0.out.lt)
      have HR1U1 := Lib.hid (Below.row hb HR1U0.out HR1U0.out.lt)
      have HV1U1 := Lib.hid hv
      clear hb hv
      clear HBU0 HR0U0 HR1U0
      first | refine ⟨⟨HR0U1.out, HR1U1.out⟩, ?_⟩ | refine ⟨fun _ => ⟨HR0U1.out, HR1U1.out⟩, ?_⟩
      refine any_three 3 4 5 rfl rfl rfl (by kernel_rfl) (by rfl) (by rfl) (by rfl) ?_ ?_ ?_
      · go_simp
        refine (ofSay_t U1 s1 _ HOK1.out (HD1.out U1 HBU1.out)).mono ?_
        rintro e U2 ⟨VV, rfl, hv, hb⟩
        rw [HNN.out] at hv ⊢
        obtain ⟨sA, sl, sc, hva⟩ := hv.slice
        subst hva
        unfold msgV
        have HBU2 := Lib.hid (HBU1.out.trans (hb.mono HBU1.out.size))
        have HR0U2 := Lib.hid (Below.row hb HR0U1.out HR0U1.out.lt)
        have HR1U2 := Lib.hid (Below.row hb HR1U1.out HR1U1.out.lt)
        have HV1U2 := Lib.hid (HV1U1.out.below hb)
        have HV2U2 := Lib.hid hv
        clear hb hv
        clear HBU1 HR0U1 HR1U1 HV1U1
        first | refine ⟨⟨HR0U2.out, HR1U2.out⟩, ?_⟩ | refine ⟨fun _ => ⟨HR0U2.out, HR1U2.out⟩, ?_⟩
        refine any_two 4 5 rfl rfl (by kernel_rfl) (by rfl) (by rfl) ?_ ?_
        · go_simp
          have hb := (Below.refl U2.heap.size U2).alloc (Nat.le_refl _) (.cells #[.int .u8 0, .int .i64 0, .int .i64 0, .int .i64 0, .int .i64 0, .bool false, .slice none 0 0] 29)
          have HBU3 := Lib.hid (HBU2.out.trans (hb.mono HBU2.out.size))
          have HR0U3 := Lib.hid (Below.row hb HR0U2.out HR0U2.out.lt)
          have HR1U3 := Lib.hid (Below.row hb HR1U2.out HR1U2.out.lt)
          have HV1U3 := Lib.hid (HV1U2.out.below hb)
          have HV2U3 := Lib.hid (HV2U2.out.below hb)
          have HN7U3 := Lib.hid (Row.new U2 29 #[.int .u8 0, .int .i64 0, .int .i64 0, .int .i64 0, .int .i64 0, .bool false, .slice none 0 0])
          have HG7 : Hid (w.heap.size ≤ U2.heap.size) := HBU2.out.size
          clear hb
          clear HBU2 HR0U2 HR1U2 HV1U2 HV2U2
          obtain ⟨n7, hn7⟩ : ∃ x, x = U2.heap.size := ⟨_, rfl⟩
          rw [← hn7] at HN7U3 HG7 ⊢
          clear hn7
          generalize U2.alloc (.cells #[.int .u8 0, .int .i64 0, .int .i64 0, .int .i64 0, .int .i64 0, .bool false, .slice none 0 0] 29) = U3 at *
          first | refine ⟨⟨HR0U3.out, HR1U3.out⟩, ?_⟩ | refine ⟨fun _ => ⟨HR0U3.out, HR1U3.out⟩, ?_⟩
          refine AnyBut.one 5 rfl (by kernel_rfl) (by rfl) ?_
          go_simp
          have hb := (Below.refl U3.heap.size U3).alloc (Nat.le_refl _) (.cells #[.int .u8 0, .int .i64 0, .int .i64 0, .int .i64 0, .int .i64 0, .bool false, .slice none 0 0] 29)
          have HBU4 := Lib.hid (HBU3.out.trans (hb.mono HBU3.out.size))
          have HR0U4 := Lib.hid (Below.row hb HR0U3.out HR0U3.out.lt)
          have HR1U4 := Lib.hid (Below.row hb HR1U3.out HR1U3.out.lt)
          have HV1U4 := Lib.hid (HV1U3.out.below hb)
          have HV2U4 := Lib.hid (HV2U3.out.below hb)
          have HN7U4 := Lib.hid (Below.row hb HN7U3.out HN7U3.out.lt)
          have HN8U4 := Lib.hid (Row.new U3 29 #[.int .u8 0, .int .i64 0, .int .i64 0, .int .i64 0, .int .i64 0, .bool false, .slice none 0 0])
          have HG8 : Hid (w.heap.size ≤ U3.heap.size) := HBU3.out.size
          have HNE : Hid (n7 ≠ U3.heap.size) := by show _ ≠ _; have := HN7U3.out.lt; omega
          clear hb
          clear HBU3 HR0U3 HR1U3 HV1U3 HV2U3 HN7U3
          obtain ⟨n8, hn8⟩ : ∃ x, x = U3.heap.size := ⟨_, rfl⟩
          rw [← hn8] at HN8U4 HG8 HNE ⊢
          clear hn8
          generalize U3.alloc (.cells #[.int .u8 0, .int .i64 0, .int .i64 0, .int .i64 0, .int .i64 0, .bool false, .slice none 0 0] 29) = U4 at *
          first | refine ⟨⟨HR0U4.out, HR1U4.out⟩, ?_⟩ | refine ⟨fun _ => ⟨HR0U4.out, HR1U4.out⟩, ?_⟩
          refine AnyBut.one 6 rfl (by kernel_rfl) (by rfl) ?_
          have hz := HN7U4.out
          have q0 := hz.cell 0; have r0 := hz.frozen 0
          have q1 := hz.cell 1; have r1 := hz.frozen 1
          have q2 := hz.cell 2; have r2 := hz.frozen 2
          have q3 := hz.cell 3; have r3 := hz.frozen 3
          have q4 := hz.cell 4; have r4 := hz.frozen 4
          have q5 := hz.cell 5; have r5 := hz.frozen 5
          have q6 := hz.cell 6; have r6 := hz.frozen 6
          simp only [List.getElem?_toArray, List.getElem?_cons_zero, List.getElem?_cons_succ] at q0 q1 q2 q3 q4 q5 q6
          go_simp
          have hp := put7 hz (.int .u8 (m.kind : Int)) (.int .i64 m.train) (.int .i64 m.time) (.int .i64 m.dir) (.int .i64 m.ahead) (.bool m.whole) (.slice pA pl pc)
          clear hz q0 r0 q1 r1 q2 r2 q3 r3 q4 r4 q5 r5 q6 r6
          have ne0 : g0 ≠ n7 := Row.ne HR0U4.out HN7U4.out (by decide)
          have ne1 : g1 ≠ n7 := Row.ne HR1U4.out HN7U4.out (by decide)
          have k0 := Lib.hid (hp.2.2.row HR0U4.out (by simpa using ne0)); have k1 := Lib.hid (hp.2.2.row HR1U4.out (by simpa using ne1))
          have k7 := Lib.hid hp.1; have k8 := Lib.hid (hp.2.2.row HN8U4.out (by simpa using HNE.out.symm))
          have kv1 := Lib.hid (HV1U4.out.kept hp.2.2 (Other.one HN7U4.out (by decide))); have kv2 := Lib.hid (HV2U4.out.kept hp.2.2 (Other.one HN7U4.out (by decide)))
          have kb : Hid (Below w.heap.size w (((((((U4.setCell ⟨n7, 0, none⟩ (.int .u8 (m.kind : Int))).setCell ⟨n7, 1, none⟩ (.int .i64 m.train)).setCell ⟨n7, 2, none⟩ (.int .i64 m.time)).setCell ⟨n7, 3, none⟩ (.int .i64 m.dir)).setCell ⟨n7, 4, none⟩ (.int .i64 m.ahead)).setCell ⟨n7, 5, none⟩ (.bool m.whole)).setCell ⟨n7, 6, none⟩ (.slice pA pl pc))) := HBU4.out.trans (hp.2.1.mono HG7.out)
          clear hp ne0 ne1
          clear HBU4 HR0U4 HR1U4 HV1U4 HV2U4 HN7U4 HN8U4
          generalize (((((((U4.setCell ⟨n7, 0, none⟩ (.int .u8 (m.kind : Int))).setCell ⟨n7, 1, none⟩ (.int .i64 m.train)).setCell ⟨n7, 2, none⟩ (.int .i64 m.time)).setCell ⟨n7, 3, none⟩ (.int .i64 m.dir)).setCell ⟨n7, 4, none⟩ (.int .i64 m.ahead)).setCell ⟨n7, 5, none⟩ (.bool m.whole)).setCell ⟨n7, 6, none⟩ (.slice pA pl pc)) = U5 at *
          first | refine ⟨⟨k0.out, k1.out⟩, ?_⟩ | refine ⟨fun _ => ⟨k0.out, k1.out⟩, ?_⟩
          refine AnyBut.one 7 rfl (by kernel_rfl) (by rfl) ?_
          have hz := k8.out
          have q0 := hz.cell 0; have r0 := hz.frozen 0
          have q1 := hz.cell 1; have r1 := hz.frozen 1
          have q2 := hz.cell 2; have r2 := hz.frozen 2
          have q3 := hz.cell 3; have r3 := hz.frozen 3
          have q4 := hz.cell 4; have r4 := hz.frozen 4
          have q5 := hz.cell 5; have r5 := hz.frozen 5
          have q6 := hz.cell 6; have r6 := hz.frozen 6
          simp only [List.getElem?_toArray, List.getElem?_cons_zero, List.getElem?_cons_succ] at q0 q1 q2 q3 q4 q5 q6
          go_simp
          have hp := put7 hz (.int .u8 (n.kind : Int)) (.int .i64 n.train) (.int .i64 n.time) (.int .i64 n.dir) (.int .i64 n.ahead) (.bool n.whole) (.slice sA sl sc)
          clear hz q0 r0 q1 r1 q2 r2 q3 r3 q4 r4 q5 r5 q6 r6
          have ne0 : g0 ≠ n8 := Row.ne k0.out k8.out (by decide)
          have HX : Hid (Row (((((((U5.setCell ⟨n8, 0, none⟩ (.int .u8 (n.kind : Int))).setCell ⟨n8, 1, none⟩ (.int .i64 n.train)).setCell ⟨n8, 2, none⟩ (.int .i64 n.time)).setCell ⟨n8, 3, none⟩ (.int .i64 n.dir)).setCell ⟨n8, 4, none⟩ (.int .i64 n.ahead)).setCell ⟨n8, 5, none⟩ (.bool n.whole)).setCell ⟨n8, 6, none⟩ (.slice sA sl sc)) n7 29 #[.int .u8 (m.kind : Int), .int .i64 m.train, .int .i64 m.time, .int .i64 m.dir, .int .i64 m.ahead, .bool m.whole, .slice pA pl pc] ∧ Row (((((((U5.setCell ⟨n8, 0, none⟩ (.int .u8 (n.kind : Int))).setCell ⟨n8, 1, none⟩ (.int .i64 n.train)).setCell ⟨n8, 2, none⟩ (.int .i64 n.time)).setCell ⟨n8, 3, none⟩ (.int .i64 n.dir)).setCell ⟨n8, 4, none⟩ (.int .i64 n.ahead)).setCell ⟨n8, 5, none⟩ (.bool n.whole)).setCell ⟨n8, 6, none⟩ (.slice sA sl sc)) n8 29 #[.int .u8 (n.kind : Int), .int .i64 n.train, .int .i64 n.time, .int .i64 n.dir, .int .i64 n.ahead, .bool n.whole, .slice sA sl sc] ∧ Tl (((((((U5.setCell ⟨n8, 0, none⟩ (.int .u8 (n.kind : Int))).setCell ⟨n8, 1, none⟩ (.int .i64 n.train)).setCell ⟨n8, 2, none⟩ (.int .i64 n.time)).setCell ⟨n8, 3, none⟩ (.int .i64 n.dir)).setCell ⟨n8, 4, none⟩ (.int .i64 n.ahead)).setCell ⟨n8, 5, none⟩ (.bool n.whole)).setCell ⟨n8, 6, none⟩ (.slice sA sl sc)) 3 (.slice pA pl pc) (ivals m.trail) ∧ Tl (((((((U5.setCell ⟨n8, 0, none⟩ (.int .u8 (n.kind : Int))).setCell ⟨n8, 1, none⟩ (.int .i64 n.train)).setCell ⟨n8, 2, none⟩ (.int .i64 n.time)).setCell ⟨n8, 3, none⟩ (.int .i64 n.dir)).setCell ⟨n8, 4, none⟩ (.int .i64 n.ahead)).setCell ⟨n8, 5, none⟩ (.bool n.whole)).setCell ⟨n8, 6, none⟩ (.slice sA sl sc)) 3 (.slice sA sl sc) (ivals n.trail) ∧ Row (((((((U5.setCell ⟨n8, 0, none⟩ (.int .u8 (n.kind : Int))).setCell ⟨n8, 1, none⟩ (.int .i64 n.train)).setCell ⟨n8, 2, none⟩ (.int .i64 n.time)).setCell ⟨n8, 3, none⟩ (.int .i64 n.dir)).setCell ⟨n8, 4, none⟩ (.int .i64 n.ahead)).setCell ⟨n8, 5, none⟩ (.bool n.whole)).setCell ⟨n8, 6, none⟩ (.slice sA sl sc)) g0 26 #[.int .u8 (s0.kind : Int), .int .u8 (s0.train : Int), .int .u8 (s0.dir : Int), .int .u32 (s0.time : Int), .int .u16 (s0.ahead : Int), .bool s0.whole, .slice A0 l0 c0] ∧ Below w.heap.size w (((((((U5.setCell ⟨n8, 0, none⟩ (.int .u8 (n.kind : Int))).setCell ⟨n8, 1, none⟩ (.int .i64 n.train)).setCell ⟨n8, 2, none⟩ (.int .i64 n.time)).setCell ⟨n8, 3, none⟩ (.int .i64 n.dir)).setCell ⟨n8, 4, none⟩ (.int .i64 n.ahead)).setCell ⟨n8, 5, none⟩ (.bool n.whole)).setCell ⟨n8, 6, none⟩ (.slice sA sl sc))) :=
            ⟨hp.2.2.row k7.out (by simpa using HNE.out), hp.1, kv1.out.kept hp.2.2 (Other.one k8.out (by decide)), kv2.out.kept hp.2.2 (Other.one k8.out (by decide)), hp.2.2.row k0.out (by simpa using ne0), kb.out.trans (hp.2.1.mono HG8.out)⟩
          clear hp ne0 k0 k1 k7 k8 kv1 kv2 kb
          generalize (((((((U5.setCell ⟨n8, 0, none⟩ (.int .u8 (n.kind : Int))).setCell ⟨n8, 1, none⟩ (.int .i64 n.train)).setCell ⟨n8, 2, none⟩ (.int .i64 n.time)).setCell ⟨n8, 3, none⟩ (.int .i64 n.dir)).setCell ⟨n8, 4, none⟩ (.int .i64 n.ahead)).setCell ⟨n8, 5, none⟩ (.bool n.whole)).setCell ⟨n8, 6, none⟩ (.slice sA sl sc)) = U6 at *
          refine AnyBut.done (by kernel_rfl) ?_
          go_wp2_with fail
          go_meet
          case rel => exact ⟨n7, n8, pA, pl, pc, sA, sl, sc, rfl, rfl, HX⟩
        · go_simp
          have hb := (Below.refl U2.heap.size U2).alloc (Nat.le_refl _) (.cells #[.int .u8 0, .int .i64 0, .int .i64 0, .int .i64 0, .int .i64 0, .bool false, .slice none 0 0] 29)
          have HBU7 := Lib.hid (HBU2.out.trans (hb.mono HBU2.out.size))
          have HR0U7 := Lib.hid (Below.row hb HR0U2.out HR0U2.out.lt)
          have HR1U7 := Lib.hid (Below.row hb HR1U2.out HR1U2.out.lt)
          have HV1U7 := Lib.hid (HV1U2.out.below hb)
          have HV2U7 := Lib.hid (HV2U2.out.below hb)
          have HN8U7 := Lib.hid (Row.new U2 29 #[.int .u8 0, .int .i64 0, .int .i64 0, .int .i64 0, .int .i64 0, .bool false, .slice none 0 0])
          have HG8 : Hid (w.heap.size ≤ U2.heap.size) := HBU2.out.size
          clear hb
          clear HBU2 HR0U2 HR1U2 HV1U2 HV2U2
          obtain ⟨n8, hn8⟩ : ∃ x, x = U2.heap.size := ⟨_, rfl⟩
          rw [← hn8] at HN8U7 HG8 ⊢
          clear hn8
          generalize U2.alloc (.cells #[.int .u8 0, .int .i64 0, .int .i64 0, .int .i64 0, .int .i64 0, .bool false, .slice none 0 0] 29) = U7 at *
          first | refine ⟨⟨HR0U7.out, HR1U7.out⟩, ?_⟩ | refine ⟨fun _ => ⟨HR0U7.out, HR1U7.out⟩, ?_⟩
          refine AnyBut.one 4 rfl (by kernel_rfl) (by rfl) ?_
          go_simp
          have hb := (Below.refl U7.heap.size U7).alloc (Nat.le_refl _) (.cells #[.int .u8 0, .int .i64 0, .int .i64 0, .int .i64 0, .int .i64 0, .bool false, .slice none 0 0] 29)
          have HBU8 := Lib.hid (HBU7.out.trans (hb.mono HBU7.out.size))
          have HR0U8 := Lib.hid (Below.row hb HR0U7.out HR0U7.out.lt)
          have HR1U8 := Lib.hid (Below.row hb HR1U7.out HR1U7.out.lt)
          have HV1U8 := Lib.hid (HV1U7.out.below hb)
          have HV2U8 := Lib.hid (HV2U7.out.below hb)
          have HN8U8 := Lib.hid (Below.row hb HN8U7.out HN8U7.out.lt)
          have HN7U8 := Lib.hid (Row.new U7 29 #[.int .u8 0, .int .i64 0, .int .i64 0, .int .i64 0, .int .i64 0, .bool false, .slice none 0 0])
          have HG7 : Hid (w.heap.size ≤ U7.heap.size) := HBU7.out.size
          have HNE : Hid (U7.heap.size ≠ n8) := by show _ ≠ _; have := HN8U7.out.lt; omega
          clear hb
          clear HBU7 HR0U7 HR1U7 HV1U7 HV2U7 HN8U7
          obtain ⟨n7, hn7⟩ : ∃ x, x = U7.heap.size := ⟨_, rfl⟩
          rw [← hn7] at HN7U8 HG7 HNE ⊢
          clear hn7
          generalize U7.alloc (.cells #[.int .u8 0, .int .i64 0, .int .i64 0, .int .i64 0, .int .i64 0, .bool false, .slice none 0 0] 29) = U8 at *
          first | refine ⟨⟨HR0U8.out, HR1U8.out⟩, ?_⟩ | refine ⟨fun _ => ⟨HR0U8.out, HR1U8.out⟩, ?_⟩
          refine AnyBut.one 6 rfl (by kernel_rfl) (by rfl) ?_
          have hz := HN7U8.out
          have q0 := hz.cell 0; have r0 := hz.frozen 0
          have q1 := hz.cell 1; have r1 := hz.frozen 1
          have q2 := hz.cell 2; have r2 := hz.frozen 2
          have q3 := hz.cell 3; have r3 := hz.frozen 3
          have q4 := hz.cell 4; have r4 := hz.frozen 4
          have q5 := hz.cell 5; have r5 := hz.frozen 5
          have q6 := hz.cell 6; have r6 := hz.frozen 6
          simp only [List.getElem?_toArray, List.getElem?_cons_zero, List.getElem?_cons_succ] at q0 q1 q2 q3 q4 q5 q6
          go_simp
          have hp := put7 hz (.int .u8 (m.kind : Int)) (.int .i64 m.train) (.int .i64 m.time) (.int .i64 m.dir) (.int .i64 m.ahead) (.bool m.whole) (.slice pA pl pc)
          clear hz q0 r0 q1 r1 q2 r2 q3 r3 q4 r4 q5 r5 q6 r6
          have ne0 : g0 ≠ n7 := Row.ne HR0U8.out HN7U8.out (by decide)
          have ne1 : g1 ≠ n7 := Row.ne HR1U8.out HN7U8.out (by decide)
          have k0 := Lib.hid (hp.2.2.row HR0U8.out (by simpa using ne0)); have k1 := Lib.hid (hp.2.2.row HR1U8.out (by simpa using ne1))
          have k7 := Lib.hid hp.1; have k8 := Lib.hid (hp.2.2.row HN8U8.out (by simpa using HNE.out.symm))
          have kv1 := Lib.hid (HV1U8.out.kept hp.2.2 (Other.one HN7U8.out (by decide))); have kv2 := Lib.hid (HV2U8.out.kept hp.2.2 (Other.one HN7U8.out (by decide)))
          have kb : Hid (Below w.heap.size w (((((((U8.setCell ⟨n7, 0, none⟩ (.int .u8 (m.kind : Int))).setCell ⟨n7, 1, none⟩ (.int .i64 m.train)).setCell ⟨n7, 2, none⟩ (.int .i64 m.time)).setCell ⟨n7, 3, none⟩ (.int .i64 m.dir)).setCell ⟨n7, 4, none⟩ (.int .i64 m.ahead)).setCell ⟨n7, 5, none⟩ (.bool m.whole)).setCell ⟨n7, 6, none⟩ (.slice pA pl pc))) := HBU8.out.trans (hp.2.1.mono HG7.out)
          clear hp ne0 ne1
          clear HBU8 HR0U8 HR1U8 HV1U8 HV2U8 HN7U8 HN8U8
          generalize (((((((U8.setCell ⟨n7, 0, none⟩ (.int .u8 (m.kind : Int))).setCell ⟨n7, 1, none⟩ (.int .i64 m.train)).setCell ⟨n7, 2, none⟩ (.int .i64 m.time)).setCell ⟨n7, 3, none⟩ (.int .i64 m.dir)).setCell ⟨n7, 4, none⟩ (.int .i64 m.ahead)).setCell ⟨n7, 5, none⟩ (.bool m.whole)).setCell ⟨n7, 6, none⟩ (.slice pA pl pc)) = U9 at *
          first | refine ⟨⟨k0.out, k1.out⟩, ?_⟩ | refine ⟨fun _ => ⟨k0.out, k1.out⟩, ?_⟩
          refine AnyBut.one 7 rfl (by kernel_rfl) (by rfl) ?_
          have hz := k8.out
          have q0 := hz.cell 0; have r0 := hz.frozen 0
          have q1 := hz.cell 1; have r1 := hz.frozen 1
          have q2 := hz.cell 2; have r2 := hz.frozen 2
          have q3 := hz.cell 3; have r3 := hz.frozen 3
          have q4 := hz.cell 4; have r4 := hz.frozen 4
          have q5 := hz.cell 5; have r5 := hz.frozen 5
          have q6 := hz.cell 6; have r6 := hz.frozen 6
          simp only [List.getElem?_toArray, List.getElem?_cons_zero, List.getElem?_cons_succ] at q0 q1 q2 q3 q4 q5 q6
          go_simp
          have hp := put7 hz (.int .u8 (n.kind : Int)) (.int .i64 n.train) (.int .i64 n.time) (.int .i64 n.dir) (.int .i64 n.ahead) (.bool n.whole) (.slice sA sl sc)
          clear hz q0 r0 q1 r1 q2 r2 q3 r3 q4 r4 q5 r5 q6 r6
          have ne0 : g0 ≠ n8 := Row.ne k0.out k8.out (by decide)
          have HX : Hid (Row (((((((U9.setCell ⟨n8, 0, none⟩ (.int .u8 (n.kind : Int))).setCell ⟨n8, 1, none⟩ (.int .i64 n.train)).setCell ⟨n8, 2, none⟩ (.int .i64 n.time)).setCell ⟨n8, 3, none⟩ (.int .i64 n.dir)).setCell ⟨n8, 4, none⟩ (.int .i64 n.ahead)).setCell ⟨n8, 5, none⟩ (.bool n.whole)).setCell ⟨n8, 6, none⟩ (.slice sA sl sc)) n7 29 #[.int .u8 (m.kind : Int), .int .i64 m.train, .int .i64 m.time, .int .i64 m.dir, .int .i64 m.ahead, .bool m.whole, .slice pA pl pc] ∧ Row (((((((U9.setCell ⟨n8, 0, none⟩ (.int .u8 (n.kind : Int))).setCell ⟨n8, 1, none⟩ (.int .i64 n.train)).setCell ⟨n8, 2, none⟩ (.int .i64 n.time)).setCell ⟨n8, 3, none⟩ (.int .i64 n.dir)).setCell ⟨n8, 4, none⟩ (.int .i64 n.ahead)).setCell ⟨n8, 5, none⟩ (.bool n.whole)).setCell ⟨n8, 6, none⟩ (.slice sA sl sc)) n8 29 #[.int .u8 (n.kind : Int), .int .i64 n.train, .int .i64 n.time, .int .i64 n.dir, .int .i64 n.ahead, .bool n.whole, .slice sA sl sc] ∧ Tl (((((((U9.setCell ⟨n8, 0, none⟩ (.int .u8 (n.kind : Int))).setCell ⟨n8, 1, none⟩ (.int .i64 n.train)).setCell ⟨n8, 2, none⟩ (.int .i64 n.time)).setCell ⟨n8, 3, none⟩ (.int .i64 n.dir)).setCell ⟨n8, 4, none⟩ (.int .i64 n.ahead)).setCell ⟨n8, 5, none⟩ (.bool n.whole)).setCell ⟨n8, 6, none⟩ (.slice sA sl sc)) 3 (.slice pA pl pc) (ivals m.trail) ∧ Tl (((((((U9.setCell ⟨n8, 0, none⟩ (.int .u8 (n.kind : Int))).setCell ⟨n8, 1, none⟩ (.int .i64 n.train)).setCell ⟨n8, 2, none⟩ (.int .i64 n.time)).setCell ⟨n8, 3, none⟩ (.int .i64 n.dir)).setCell ⟨n8, 4, none⟩ (.int .i64 n.ahead)).setCell ⟨n8, 5, none⟩ (.bool n.whole)).setCell ⟨n8, 6, none⟩ (.slice sA sl sc)) 3 (.slice sA sl sc) (ivals n.trail) ∧ Row (((((((U9.setCell ⟨n8, 0, none⟩ (.int .u8 (n.kind : Int))).setCell ⟨n8, 1, none⟩ (.int .i64 n.train)).setCell ⟨n8, 2, none⟩ (.int .i64 n.time)).setCell ⟨n8, 3, none⟩ (.int .i64 n.dir)).setCell ⟨n8, 4, none⟩ (.int .i64 n.ahead)).setCell ⟨n8, 5, none⟩ (.bool n.whole)).setCell ⟨n8, 6, none⟩ (.slice sA sl sc)) g0 26 #[.int .u8 (s0.kind : Int), .int .u8 (s0.train : Int), .int .u8 (s0.dir : Int), .int .u32 (s0.time : Int), .int .u16 (s0.ahead : Int), .bool s0.whole, .slice A0 l0 c0] ∧ Below w.heap.size w (((((((U9.setCell ⟨n8, 0, none⟩ (.int .u8 (n.kind : Int))).setCell ⟨n8, 1, none⟩ (.int .i64 n.train)).setCell ⟨n8, 2, none⟩ (.int .i64 n.time)).setCell ⟨n8, 3, none⟩ (.int .i64 n.dir)).setCell ⟨n8, 4, none⟩ (.int .i64 n.ahead)).setCell ⟨n8, 5, none⟩ (.bool n.whole)).setCell ⟨n8, 6, none⟩ (.slice sA sl sc))) :=
            ⟨hp.2.2.row k7.out (by simpa using HNE.out), hp.1, kv1.out.kept hp.2.2 (Other.one k8.out (by decide)), kv2.out.kept hp.2.2 (Other.one k8.out (by decide)), hp.2.2.row k0.out (by simpa using ne0), kb.out.trans (hp.2.1.mono HG8.out)⟩
          clear hp ne0 k0 k1 k7 k8 kv1 kv2 kb
          generalize (((((((U9.setCell ⟨n8, 0, none⟩ (.int .u8 (n.kind : Int))).setCell ⟨n8, 1, none⟩ (.int .i64 n.train)).setCell ⟨n8, 2, none⟩ (.int .i64 n.time)).setCell ⟨n8, 3, none⟩ (.int .i64 n.dir)).setCell ⟨n8, 4, none⟩ (.int .i64 n.ahead)).setCell ⟨n8, 5, none⟩ (.bool n.whole)).setCell ⟨n8, 6, none⟩ (.slice sA sl sc)) = U10 at *
          refine AnyBut.done (by kernel_rfl) ?_
          go_wp2_with fail
          go_meet
          case rel => exact ⟨n7, n8, pA, pl, pc, sA, sl, sc, rfl, rfl, HX⟩
      · go_simp
        have hb := (Below.refl U1.heap.size U1).alloc (Nat.le_refl _) (.cells #[.int .u8 0, .int .i64 0, .int .i64 0, .int .i64 0, .int .i64 0, .bool false, .slice none 0 0] 29)
        have HBU11 := Lib.hid (HBU1.out.trans (hb.mono HBU1.out.size))
        have HR0U11 := Lib.hid (Below.row hb HR0U1.out HR0U1.out.lt)
        have HR1U11 := Lib.hid (Below.row hb HR1U1.out HR1U1.out.lt)
        have HV1U11 := Lib.hid (HV1U1.out.below hb)
        have HN7U11 := Lib.hid (Row.new U1 29 #[.int .u8 0, .int .i64 0, .int .i64 0, .int .i64 0, .int .i64 0, .bool false, .slice none 0 0])
        have HG7 : Hid (w.heap.size ≤ U1.heap.size) := HBU1.out.size
        clear hb
        clear HBU1 HR0U1 HR1U1 HV1U1
        obtain ⟨n7, hn7⟩ : ∃ x, x = U1.heap.size := ⟨_, rfl⟩
        rw [← hn7] at HN7U11 HG7 ⊢
        clear hn7
        generalize U1.alloc (.cells #[.int .u8 0, .int .i64 0, .int .i64 0, .int .i64 0, .int .i64 0, .bool false, .slice none 0 0] 29) = U11 at *
        first | refine ⟨⟨HR0U11.out, HR1U11.out⟩, ?_⟩ | refine ⟨fun _ => ⟨HR0U11.out, HR1U11.out⟩, ?_⟩
        refine any_two 3 5 rfl rfl (by kernel_rfl) (by rfl) (by rfl) ?_ ?_
        · go_simp
          refine (ofSay_t U11 s1 _ HOK1.out (HD1.out U11 HBU11.out)).mono ?_
          rintro e U12 ⟨VV, rfl, hv, hb⟩
          rw [HNN.out] at hv ⊢
          obtain ⟨sA, sl, sc, hva⟩ := hv.slice
          subst hva
          unfold msgV
          have HBU12 := Lib.hid (HBU11.out.trans (hb.mono HBU11.out.size))
          have HR0U12 := Lib.hid (Below.row hb HR0U11.out HR0U11.out.lt)
          have HR1U12 := Lib.hid (Below.row hb HR1U11.out HR1U11.out.lt)
          have HV1U12 := Lib.hid (HV1U11.out.below hb)
          have HN7U12 := Lib.hid (Below.row hb HN7U11.out HN7U11.out.lt)
          have HV2U12 := Lib.hid hv
          clear hb hv
          clear HBU11 HR0U11 HR1U11 HV1U11 HN7U11
          first | refine ⟨⟨HR0U12.out, HR1U12.out⟩, ?_⟩ | refine ⟨fun _ => ⟨HR0U12.out, HR1U12.out⟩, ?_⟩
          refine AnyBut.one 5 rfl (by kernel_rfl) (by rfl) ?_
          go_simp
          have hb := (Below.refl U12.heap.size U12).alloc (Nat.le_refl _) (.cells #[.int .u8 0, .int .i64 0, .int .i64 0, .int .i64 0, .int .i64 0, .bool false, .slice none 0 0] 29)
          have HBU13 := Lib.hid (HBU12.out.trans (hb.mono HBU12.out.size))
          have HR0U13 := Lib.hid (Below.row hb HR0U12.out HR0U12.out.lt)
          have HR1U13 := Lib.hid (Below.row hb HR1U12.out HR1U12.out.lt)
          have HV1U13 := Lib.hid (HV1U12.out.below hb)
          have HV2U13 := Lib.hid (HV2U12.out.below hb)
          have HN7U13 := Lib.hid (Below.row hb HN7U12.out HN7U12.out.lt)
          have HN8U13 := Lib.hid (Row.new U12 29 #[.int .u8 0, .int .i64 0, .int .i64 0, .int .i64 0, .int .i64 0, .bool false, .slice none 0 0])
          have HG8 : Hid (w.heap.size ≤ U12.heap.size) := HBU12.out.size
          have HNE : Hid (n7 ≠ U12.heap.size) := by show _ ≠ _; have := HN7U12.out.lt; omega
          clear hb
          clear HBU12 HR0U12 HR1U12 HV1U12 HV2U12 HN7U12
          obtain ⟨n8, hn8⟩ : ∃ x, x = U12.heap.size := ⟨_, rfl⟩
          rw [← hn8] at HN8U13 HG8 HNE ⊢
          clear hn8
          generalize U12.alloc (.cells #[.int .u8 0, .int .i64 0, .int .i64 0, .int .i64 0, .int .i64 0, .bool false, .slice none 0 0] 29) = U13 at *
          first | refine ⟨⟨HR0U13.out, HR1U13.out⟩, ?_⟩ | refine ⟨fun _ => ⟨HR0U13.out, HR1U13.out⟩, ?_⟩
          refine AnyBut.one 6 rfl (by kernel_rfl) (by rfl) ?_
          have hz := HN7U13.out
          have q0 := hz.cell 0; have r0 := hz.frozen 0
          have q1 := hz.cell 1; have r1 := hz.frozen 1
          have q2 := hz.cell 2; have r2 := hz.frozen 2
          have q3 := hz.cell 3; have r3 := hz.frozen 3
          have q4 := hz.cell 4; have r4 := hz.frozen 4
          have q5 := hz.cell 5; have r5 := hz.frozen 5
          have q6 := hz.cell 6; have r6 := hz.frozen 6
          simp only [List.getElem?_toArray, List.getElem?_cons_zero, List.getElem?_cons_succ] at q0 q1 q2 q3 q4 q5 q6
          go_simp
          have hp := put7 hz (.int .u8 (m.kind : Int)) (.int .i64 m.train) (.int .i64 m.time) (.int .i64 m.dir) (.int .i64 m.ahead) (.bool m.whole) (.slice pA pl pc)
          clear hz q0 r0 q1 r1 q2 r2 q3 r3 q4 r4 q5 r5 q6 r6
          have ne0 : g0 ≠ n7 := Row.ne HR0U13.out HN7U13.out (by decide)
          have ne1 : g1 ≠ n7 := Row.ne HR1U13.out HN7U13.out (by decide)
          have k0 := Lib.hid (hp.2.2.row HR0U13.out (by simpa using ne0)); have k1 := Lib.hid (hp.2.2.row HR1U13.out (by simpa using ne1))
          have k7 := Lib.hid hp.1; have k8 := Lib.hid (hp.2.2.row HN8U13.out (by simpa using HNE.out.symm))
          have kv1 := Lib.hid (HV1U13.out.kept hp.2.2 (Other.one HN7U13.out (by decide))); have kv2 := Lib.hid (HV2U13.out.kept hp.2.2 (Other.one HN7U13.out (by decide)))
          have kb : Hid (Below w.heap.size w (((((((U13.setCell ⟨n7, 0, none⟩ (.int .u8 (m.kind : Int))).setCell ⟨n7, 1, none⟩ (.int .i64 m.train)).setCell ⟨n7, 2, none⟩ (.int .i64 m.time)).setCell ⟨n7, 3, none⟩ (.int .i64 m.dir)).setCell ⟨n7, 4, none⟩ (.int .i64 m.ahead)).setCell ⟨n7, 5, none⟩ (.bool m.whole)).setCell ⟨n7, 6, none⟩ (.slice pA pl pc))) := HBU13.out.trans (hp.2.1.mono HG7.out)
          clear hp ne0 ne1
          clear HBU13 HR0U13 HR1U13 HV1U13 HV2U13 HN7U13 HN8U13
          generalize (((((((U13.setCell ⟨n7, 0, none⟩ (.int .u8 (m.kind : Int))).setCell ⟨n7, 1, none⟩ (.int .i64 m.train)).setCell ⟨n7, 2, none⟩ (.int .i64 m.time)).setCell ⟨n7, 3, none⟩ (.int .i64 m.dir)).setCell ⟨n7, 4, none⟩ (.int .i64 m.ahead)).setCell ⟨n7, 5, none⟩ (.bool m.whole)).setCell ⟨n7, 6, none⟩ (.slice pA pl pc)) = U14 at *
          first | refine ⟨⟨k0.out, k1.out⟩, ?_⟩ | refine ⟨fun _ => ⟨k0.out, k1.out⟩, ?_⟩
          refine AnyBut.one 7 rfl (by kernel_rfl) (by rfl) ?_
          have hz := k8.out
          have q0 := hz.cell 0; have r0 := hz.frozen 0
          have q1 := hz.cell 1; have r1 := hz.frozen 1
          have q2 := hz.cell 2; have r2 := hz.frozen 2
          have q3 := hz.cell 3; have r3 := hz.frozen 3
          have q4 := hz.cell 4; have r4 := hz.frozen 4
          have q5 := hz.cell 5; have r5 := hz.frozen 5
          have q6 := hz.cell 6; have r6 := hz.frozen 6
          simp only [List.getElem?_toArray, List.getElem?_cons_zero, List.getElem?_cons_succ] at q0 q1 q2 q3 q4 q5 q6
          go_simp
          have hp := put7 hz (.int .u8 (n.kind : Int)) (.int .i64 n.train) (.int .i64 n.time) (.int .i64 n.dir) (.int .i64 n.ahead) (.bool n.whole) (.slice sA sl sc)
          clear hz q0 r0 q1 r1 q2 r2 q3 r3 q4 r4 q5 r5 q6 r6
          have ne0 : g0 ≠ n8 := Row.ne k0.out k8.out (by decide)
          have HX : Hid (Row (((((((U14.setCell ⟨n8, 0, none⟩ (.int .u8 (n.kind : Int))).setCell ⟨n8, 1, none⟩ (.int .i64 n.train)).setCell ⟨n8, 2, none⟩ (.int .i64 n.time)).setCell ⟨n8, 3, none⟩ (.int .i64 n.dir)).setCell ⟨n8, 4, none⟩ (.int .i64 n.ahead)).setCell ⟨n8, 5, none⟩ (.bool n.whole)).setCell ⟨n8, 6, none⟩ (.slice sA sl sc)) n7 29 #[.int .u8 (m.kind : Int), .int .i64 m.train, .int .i64 m.time, .int .i64 m.dir, .int .i64 m.ahead, .bool m.whole, .slice pA pl pc] ∧ Row (((((((U14.setCell ⟨n8, 0, none⟩ (.int .u8 (n.kind : Int))).setCell ⟨n8, 1, none⟩ (.int .i64 n.train)).setCell ⟨n8, 2, none⟩ (.int .i64 n.time)).setCell ⟨n8, 3, none⟩ (.int .i64 n.dir)).setCell ⟨n8, 4, none⟩ (.int .i64 n.ahead)).setCell ⟨n8, 5, none⟩ (.bool n.whole)).setCell ⟨n8, 6, none⟩ (.slice sA sl sc)) n8 29 #[.int .u8 (n.kind : Int), .int .i64 n.train, .int .i64 n.time, .int .i64 n.dir, .int .i64 n.ahead, .bool n.whole, .slice sA sl sc] ∧ Tl (((((((U14.setCell ⟨n8, 0, none⟩ (.int .u8 (n.kind : Int))).setCell ⟨n8, 1, none⟩ (.int .i64 n.train)).setCell ⟨n8, 2, none⟩ (.int .i64 n.time)).setCell ⟨n8, 3, none⟩ (.int .i64 n.dir)).setCell ⟨n8, 4, none⟩ (.int .i64 n.ahead)).setCell ⟨n8, 5, none⟩ (.bool n.whole)).setCell ⟨n8, 6, none⟩ (.slice sA sl sc)) 3 (.slice pA pl pc) (ivals m.trail) ∧ Tl (((((((U14.setCell ⟨n8, 0, none⟩ (.int .u8 (n.kind : Int))).setCell ⟨n8, 1, none⟩ (.int .i64 n.train)).setCell ⟨n8, 2, none⟩ (.int .i64 n.time)).setCell ⟨n8, 3, none⟩ (.int .i64 n.dir)).setCell ⟨n8, 4, none⟩ (.int .i64 n.ahead)).setCell ⟨n8, 5, none⟩ (.bool n.whole)).setCell ⟨n8, 6, none⟩ (.slice sA sl sc)) 3 (.slice sA sl sc) (ivals n.trail) ∧ Row (((((((U14.setCell ⟨n8, 0, none⟩ (.int .u8 (n.kind : Int))).setCell ⟨n8, 1, none⟩ (.int .i64 n.train)).setCell ⟨n8, 2, none⟩ (.int .i64 n.time)).setCell ⟨n8, 3, none⟩ (.int .i64 n.dir)).setCell ⟨n8, 4, none⟩ (.int .i64 n.ahead)).setCell ⟨n8, 5, none⟩ (.bool n.whole)).setCell ⟨n8, 6, none⟩ (.slice sA sl sc)) g0 26 #[.int .u8 (s0.kind : Int), .int .u8 (s0.train : Int), .int .u8 (s0.dir : Int), .int .u32 (s0.time : Int), .int .u16 (s0.ahead : Int), .bool s0.whole, .slice A0 l0 c0] ∧ Below w.heap.size w (((((((U14.setCell ⟨n8, 0, none⟩ (.int .u8 (n.kind : Int))).setCell ⟨n8, 1, none⟩ (.int .i64 n.train)).setCell ⟨n8, 2, none⟩ (.int .i64 n.time)).setCell ⟨n8, 3, none⟩ (.int .i64 n.dir)).setCell ⟨n8, 4, none⟩ (.int .i64 n.ahead)).setCell ⟨n8, 5, none⟩ (.bool n.whole)).setCell ⟨n8, 6, none⟩ (.slice sA sl sc))) :=
            ⟨hp.2.2.row k7.out (by simpa using HNE.out), hp.1, kv1.out.kept hp.2.2 (Other.one k8.out (by decide)), kv2.out.kept hp.2.2 (Other.one k8.out (by decide)), hp.2.2.row k0.out (by simpa using ne0), kb.out.trans (hp.2.1.mono HG8.out)⟩
          clear hp ne0 k0 k1 k7 k8 kv1 kv2 kb
          generalize (((((((U14.setCell ⟨n8, 0, none⟩ (.int .u8 (n.kind : Int))).setCell ⟨n8, 1, none⟩ (.int .i64 n.train)).setCell ⟨n8, 2, none⟩ (.int .i64 n.time)).setCell ⟨n8, 3, none⟩ (.int .i64 n.dir)).setCell ⟨n8, 4, none⟩ (.int .i64 n.ahead)).setCell ⟨n8, 5, none⟩ (.bool n.whole)).setCell ⟨n8, 6, none⟩ (.slice sA sl sc)) = U15 at *
          refine AnyBut.done (by kernel_rfl) ?_
          go_wp2_with fail
          go_meet
          case rel => exact ⟨n7, n8, pA, pl, pc, sA, sl, sc, rfl, rfl, HX⟩
        · go_simp
          have hb := (Below.refl U11.heap.size U11).alloc (Nat.le_refl _) (.cells #[.int .u8 0, .int .i64 0, .int .i64 0, .int .i64 0, .int .i64 0, .bool false, .slice none 0 0] 29)
          have HBU16 := Lib.hid (HBU11.out.trans (hb.mono HBU11.out.size))
          have HR0U16 := Lib.hid (Below.row hb HR0U11.out HR0U11.out.lt)
          have HR1U16 := Lib.hid (Below.row hb HR1U11.out HR1U11.out.lt)
          have HV1U16 := Lib.hid (HV1U11.out.below hb)
          have HN7U16 := Lib.hid (Below.row hb HN7U11.out HN7U11.out.lt)
          have HN8U16 := Lib.hid (Row.new U11 29 #[.int .u8 0, .int .i64 0, .int .i64 0, .int .i64 0, .int .i64 0, .bool false, .slice none 0 0])
          have HG8 : Hid (w.heap.size ≤ U11.heap.size) := HBU11.out.size
          have HNE : Hid (n7 ≠ U11.heap.size) := by show _ ≠ _; have := HN7U11.out.lt; omega
          clear hb
          clear HBU11 HR0U11 HR1U11 HV1U11 HN7U11
          obtain ⟨n8, hn8⟩ : ∃ x, x = U11.heap.size := ⟨_, rfl⟩
          rw [← hn8] at HN8U16 HG8 HNE ⊢
          clear hn8
          generalize U11.alloc (.cells #[.int .u8 0, .int .i64 0, .int .i64 0, .int .i64 0, .int .i64 0, .bool false, .slice none 0 0] 29) = U16 at *
          first | refine ⟨⟨HR0U16.out, HR1U16.out⟩, ?_⟩ | refine ⟨fun _ => ⟨HR0U16.out, HR1U16.out⟩, ?_⟩
          refine AnyBut.one 3 rfl (by kernel_rfl) (by rfl) ?_
          go_simp
          refine (ofSay_t U16 s1 _ HOK1.out (HD1.out U16 HBU16.out)).mono ?_
          rintro e U17 ⟨VV, rfl, hv, hb⟩
          rw [HNN.out] at hv ⊢
          obtain ⟨sA, sl, sc, hva⟩ := hv.slice
          subst hva
          unfold msgV
          have HBU17 := Lib.hid (HBU16.out.trans (hb.mono HBU16.out.size))
          have HR0U17 := Lib.hid (Below.row hb HR0U16.out HR0U16.out.lt)
          have HR1U17 := Lib.hid (Below.row hb HR1U16.out HR1U16.out.lt)
          have HV1U17 := Lib.hid (HV1U16.out.below hb)
          have HN7U17 := Lib.hid (Below.row hb HN7U16.out HN7U16.out.lt)
          have HN8U17 := Lib.hid (Below.row hb HN8U16.out HN8U16.out.lt)
          have HV2U17 := Lib.hid hv
          clear hb hv
          clear HBU16 HR0U16 HR1U16 HV1U16 HN7U16 HN8U16
          first | refine ⟨⟨HR0U17.out, HR1U17.out⟩, ?_⟩ | refine ⟨fun _ => ⟨HR0U17.out, HR1U17.out⟩, ?_⟩
          refine AnyBut.one 6 rfl (by kernel_rfl) (by rfl) ?_
          have hz := HN7U17.out
          have q0 := hz.cell 0; have r0 := hz.frozen 0
          have q1 := hz.cell 1; have r1 := hz.frozen 1
          have q2 := hz.cell 2; have r2 := hz.frozen 2
          have q3 := hz.cell 3; have r3 := hz.frozen 3
          have q4 := hz.cell 4; have r4 := hz.frozen 4
          have q5 := hz.cell 5; have r5 := hz.frozen 5
          have q6 := hz.cell 6; have r6 := hz.frozen 6
          simp only [List.getElem?_toArray, List.getElem?_cons_zero, List.getElem?_cons_succ] at q0 q1 q2 q3 q4 q5 q6
          go_simp
          have hp := put7 hz (.int .u8 (m.kind : Int)) (.int .i64 m.train) (.int .i64 m.time) (.int .i64 m.dir) (.int .i64 m.ahead) (.bool m.whole) (.slice pA pl pc)
          clear hz q0 r0 q1 r1 q2 r2 q3 r3 q4 r4 q5 r5 q6 r6
          have ne0 : g0 ≠ n7 := Row.ne HR0U17.out HN7U17.out (by decide)
          have ne1 : g1 ≠ n7 := Row.ne HR1U17.out HN7U17.out (by decide)
          have k0 := Lib.hid (hp.2.2.row HR0U17.out (by simpa using ne0)); have k1 := Lib.hid (hp.2.2.row HR1U17.out (by simpa using ne1))
          have k7 := Lib.hid hp.1; have k8 := Lib.hid (hp.2.2.row HN8U17.out (by simpa using HNE.out.symm))
          have kv1 := Lib.hid (HV1U17.out.kept hp.2.2 (Other.one HN7U17.out (by decide))); have kv2 := Lib.hid (HV2U17.out.kept hp.2.2 (Other.one HN7U17.out (by decide)))
          have kb : Hid (Below w.heap.size w (((((((U17.setCell ⟨n7, 0, none⟩ (.int .u8 (m.kind : Int))).setCell ⟨n7, 1, none⟩ (.int .i64 m.train)).setCell ⟨n7, 2, none⟩ (.int .i64 m.time)).setCell ⟨n7, 3, none⟩ (.int .i64 m.dir)).setCell ⟨n7, 4, none⟩ (.int .i64 m.ahead)).setCell ⟨n7, 5, none⟩ (.bool m.whole)).setCell ⟨n7, 6, none⟩ (.slice pA pl pc))) := HBU17.out.trans (hp.2.1.mono HG7.out)
          clear hp ne0 ne1
          clear HBU17 HR0U17 HR1U17 HV1U17 HV2U17 HN7U17 HN8U17
          generalize (((((((U17.setCell ⟨n7, 0, none⟩ (.int .u8 (m.kind : Int))).setCell ⟨n7, 1, none⟩ (.int .i64 m.train)).setCell ⟨n7, 2, none⟩ (.int .i64 m.time)).setCell ⟨n7, 3, none⟩ (.int .i64 m.dir)).setCell ⟨n7, 4, none⟩ (.int .i64 m.ahead)).setCell ⟨n7, 5, none⟩ (.bool m.whole)).setCell ⟨n7, 6, none⟩ (.slice pA pl pc)) = U18 at *
          first | refine ⟨⟨k0.out, k1.out⟩, ?_⟩ | refine ⟨fun _ => ⟨k0.out, k1.out⟩, ?_⟩
          refine AnyBut.one 7 rfl (by kernel_rfl) (by rfl) ?_
          have hz := k8.out
          have q0 := hz.cell 0; have r0 := hz.frozen 0
          have q1 := hz.cell 1; have r1 := hz.frozen 1
          have q2 := hz.cell 2; have r2 := hz.frozen 2
          have q3 := hz.cell 3; have r3 := hz.frozen 3
          have q4 := hz.cell 4; have r4 := hz.frozen 4
          have q5 := hz.cell 5; have r5 := hz.frozen 5
          have q6 := hz.cell 6; have r6 := hz.frozen 6
          simp only [List.getElem?_toArray, List.getElem?_cons_zero, List.getElem?_cons_succ] at q0 q1 q2 q3 q4 q5 q6
          go_simp
          have hp := put7 hz (.int .u8 (n.kind : Int)) (.int .i64 n.train) (.int .i64 n.time) (.int .i64 n.dir) (.int .i64 n.ahead) (.bool n.whole) (.slice sA sl sc)
          clear hz q0 r0 q1 r1 q2 r2 q3 r3 q4 r4 q5 r5 q6 r6
          have ne0 : g0 ≠ n8 := Row.ne k0.out k8.out (by decide)
          have HX : Hid (Row (((((((U18.setCell ⟨n8, 0, none⟩ (.int .u8 (n.kind : Int))).setCell ⟨n8, 1, none⟩ (.int .i64 n.train)).setCell ⟨n8, 2, none⟩ (.int .i64 n.time)).setCell ⟨n8, 3, none⟩ (.int .i64 n.dir)).setCell ⟨n8, 4, none⟩ (.int .i64 n.ahead)).setCell ⟨n8, 5, none⟩ (.bool n.whole)).setCell ⟨n8, 6, none⟩ (.slice sA sl sc)) n7 29 #[.int .u8 (m.kind : Int), .int .i64 m.train, .int .i64 m.time, .int .i64 m.dir, .int .i64 m.ahead, .bool m.whole, .slice pA pl pc] ∧ Row (((((((U18.setCell ⟨n8, 0, none⟩ (.int .u8 (n.kind : Int))).setCell ⟨n8, 1, none⟩ (.int .i64 n.train)).setCell ⟨n8, 2, none⟩ (.int .i64 n.time)).setCell ⟨n8, 3, none⟩ (.int .i64 n.dir)).setCell ⟨n8, 4, none⟩ (.int .i64 n.ahead)).setCell ⟨n8, 5, none⟩ (.bool n.whole)).setCell ⟨n8, 6, none⟩ (.slice sA sl sc)) n8 29 #[.int .u8 (n.kind : Int), .int .i64 n.train, .int .i64 n.time, .int .i64 n.dir, .int .i64 n.ahead, .bool n.whole, .slice sA sl sc] ∧ Tl (((((((U18.setCell ⟨n8, 0, none⟩ (.int .u8 (n.kind : Int))).setCell ⟨n8, 1, none⟩ (.int .i64 n.train)).setCell ⟨n8, 2, none⟩ (.int .i64 n.time)).setCell ⟨n8, 3, none⟩ (.int .i64 n.dir)).setCell ⟨n8, 4, none⟩ (.int .i64 n.ahead)).setCell ⟨n8, 5, none⟩ (.bool n.whole)).setCell ⟨n8, 6, none⟩ (.slice sA sl sc)) 3 (.slice pA pl pc) (ivals m.trail) ∧ Tl (((((((U18.setCell ⟨n8, 0, none⟩ (.int .u8 (n.kind : Int))).setCell ⟨n8, 1, none⟩ (.int .i64 n.train)).setCell ⟨n8, 2, none⟩ (.int .i64 n.time)).setCell ⟨n8, 3, none⟩ (.int .i64 n.dir)).setCell ⟨n8, 4, none⟩ (.int .i64 n.ahead)).setCell ⟨n8, 5, none⟩ (.bool n.whole)).setCell ⟨n8, 6, none⟩ (.slice sA sl sc)) 3 (.slice sA sl sc) (ivals n.trail) ∧ Row (((((((U18.setCell ⟨n8, 0, none⟩ (.int .u8 (n.kind : Int))).setCell ⟨n8, 1, none⟩ (.int .i64 n.train)).setCell ⟨n8, 2, none⟩ (.int .i64 n.time)).setCell ⟨n8, 3, none⟩ (.int .i64 n.dir)).setCell ⟨n8, 4, none⟩ (.int .i64 n.ahead)).setCell ⟨n8, 5, none⟩ (.bool n.whole)).setCell ⟨n8, 6, none⟩ (.slice sA sl sc)) g0 26 #[.int .u8 (s0.kind : Int), .int .u8 (s0.train : Int), .int .u8 (s0.dir : Int), .int .u32 (s0.time : Int), .int .u16 (s0.ahead : Int), .bool s0.whole, .slice A0 l0 c0] ∧ Below w.heap.size w (((((((U18.setCell ⟨n8, 0, none⟩ (.int .u8 (n.kind : Int))).setCell ⟨n8, 1, none⟩ (.int .i64 n.train)).setCell ⟨n8, 2, none⟩ (.int .i64 n.time)).setCell ⟨n8, 3, none⟩ (.int .i64 n.dir)).setCell ⟨n8, 4, none⟩ (.int .i64 n.ahead)).setCell ⟨n8, 5, none⟩ (.bool n.whole)).setCell ⟨n8, 6, none⟩ (.slice sA sl sc))) :=
            ⟨hp.2.2.row k7.out (by simpa using HNE.out), hp.1, kv1.out.kept hp.2.2 (Other.one k8.out (by decide)), kv2.out.kept hp.2.2 (Other.one k8.out (by decide)), hp.2.2.row k0.out (by simpa using ne0), kb.out.trans (hp.2.1.mono HG8.out)⟩
          clear hp ne0 k0 k1 k7 k8 kv1 kv2 kb
          generalize (((((((U18.setCell ⟨n8, 0, none⟩ (.int .u8 (n.kind : Int))).setCell ⟨n8, 1, none⟩ (.int .i64 n.train)).setCell ⟨n8, 2, none⟩ (.int .i64 n.time)).setCell ⟨n8, 3, none⟩ (.int .i64 n.dir)).setCell ⟨n8, 4, none⟩ (.int .i64 n.ahead)).setCell ⟨n8, 5, none⟩ (.bool n.whole)).setCell ⟨n8, 6, none⟩ (.slice sA sl sc)) = U19 at *
          refine AnyBut.done (by kernel_rfl) ?_
          go_wp2_with fail
          go_meet
          case rel => exact ⟨n7, n8, pA, pl, pc, sA, sl, sc, rfl, rfl, HX⟩
      · go_simp
        have hb := (Below.refl U1.heap.size U1).alloc (Nat.le_refl _) (.cells #[.int .u8 0, .int .i64 0, .int .i64 0, .int .i64 0, .int .i64 0, .bool false, .slice none 0 0] 29)
        have HBU20 := Lib.hid (HBU1.out.trans (hb.mono HBU1.out.size))
        have HR0U20 := Lib.hid (Below.row hb HR0U1.out HR0U1.out.lt)
        have HR1U20 := Lib.hid (Below.row hb HR1U1.out HR1U1.out.lt)
        have HV1U20 := Lib.hid (HV1U1.out.below hb)
        have HN8U20 := Lib.hid (Row.new U1 29 #[.int .u8 0, .int .i64 0, .int .i64 0, .int .i64 0, .int .i64 0, .bool false, .slice none 0 0])
        have HG8 : Hid (w.heap.size ≤ U1.heap.size) := HBU1.out.size
        clear hb
        clear HBU1 HR0U1 HR1U1 HV1U1
        obtain ⟨n8, hn8⟩ : ∃ x, x = U1.heap.size := ⟨_, rfl⟩
        rw [← hn8] at HN8U20 HG8 ⊢
        clear hn8
        generalize U1.alloc (.cells #[.int .u8 0, .int .i64 0, .int .i64 0, .int .i64 0, .int .i64 0, .bool false, .slice none 0 0] 29) = U20 at *
        first | refine ⟨⟨HR0U20.out, HR1U20.out⟩, ?_⟩ | refine ⟨fun _ => ⟨HR0U20.out, HR1U20.out⟩, ?_⟩
        refine any_two 3 4 rfl rfl (by kernel_rfl) (by rfl) (by rfl) ?_ ?_
        · go_simp
          refine (ofSay_t U20 s1 _ HOK1.out (HD1.out U20 HBU20.out)).mono ?_
          rintro e U21 ⟨VV, rfl, hv, hb⟩
          rw [HNN.out] at hv ⊢
          obtain ⟨sA, sl, sc, hva⟩ := hv.slice
          subst hva
          unfold msgV
          have HBU21 := Lib.hid (HBU20.out.trans (hb.mono HBU20.out.size))
          have HR0U21 := Lib.hid (Below.row hb HR0U20.out HR0U20.out.lt)
          have HR1U21 := Lib.hid (Below.row hb HR1U20.out HR1U20.out.lt)
          have HV1U21 := Lib.hid (HV1U20.out.below hb)
          have HN8U21 := Lib.hid (Below.row hb HN8U20.out HN8U20.out.lt)
          have HV2U21 := Lib.hid hv
          clear hb hv
          clear HBU20 HR0U20 HR1U20 HV1U20 HN8U20
          first | refine ⟨⟨HR0U21.out, HR1U21.out⟩, ?_⟩ | refine ⟨fun _ => ⟨HR0U21.out, HR1U21.out⟩, ?_⟩
          refine AnyBut.one 4 rfl (by kernel_rfl) (by rfl) ?_
          go_simp
          have hb := (Below.refl U21.heap.size U21).alloc (Nat.le_refl _) (.cells #[.int .u8 0, .int .i64 0, .int .i64 0, .int .i64 0, .int .i64 0, .bool false, .slice none 0 0] 29)
          have HBU22 := Lib.hid (HBU21.out.trans (hb.mono HBU21.out.size))
          have HR0U22 := Lib.hid (Below.row hb HR0U21.out HR0U21.out.lt)
          have HR1U22 := Lib.hid (Below.row hb HR1U21.out HR1U21.out.lt)
          have HV1U22 := Lib.hid (HV1U21.out.below hb)
          have HV2U22 := Lib.hid (HV2U21.out.below hb)
          have HN8U22 := Lib.hid (Below.row hb HN8U21.out HN8U21.out.lt)
          have HN7U22 := Lib.hid (Row.new U21 29 #[.int .u8 0, .int .i64 0, .int .i64 0, .int .i64 0, .int .i64 0, .bool false, .slice none 0 0])
          have HG7 : Hid (w.heap.size ≤ U21.heap.size) := HBU21.out.size
          have HNE : Hid (U21.heap.size ≠ n8) := by show _ ≠ _; have := HN8U21.out.lt; omega
          clear hb
          clear HBU21 HR0U21 HR1U21 HV1U21 HV2U21 HN8U21
          obtain ⟨n7, hn7⟩ : ∃ x, x = U21.heap.size := ⟨_, rfl⟩
          rw [← hn7] at HN7U22 HG7 HNE ⊢
          clear hn7
          generalize U21.alloc (.cells #[.int .u8 0, .int .i64 0, .int .i64 0, .int .i64 0, .int .i64 0, .bool false, .slice none 0 0] 29) = U22 at *
          first | refine ⟨⟨HR0U22.out, HR1U22.out⟩, ?_⟩ | refine ⟨fun _ => ⟨HR0U22.out, HR1U22.out⟩, ?_⟩
          refine AnyBut.one 6 rfl (by kernel_rfl) (by rfl) ?_
          have hz := HN7U22.out
          have q0 := hz.cell 0; have r0 := hz.frozen 0
          have q1 := hz.cell 1; have r1 := hz.frozen 1
          have q2 := hz.cell 2; have r2 := hz.frozen 2
          have q3 := hz.cell 3; have r3 := hz.frozen 3
          have q4 := hz.cell 4; have r4 := hz.frozen 4
          have q5 := hz.cell 5; have r5 := hz.frozen 5
          have q6 := hz.cell 6; have r6 := hz.frozen 6
          simp only [List.getElem?_toArray, List.getElem?_cons_zero, List.getElem?_cons_succ] at q0 q1 q2 q3 q4 q5 q6
          go_simp
          have hp := put7 hz (.int .u8 (m.kind : Int)) (.int .i64 m.train) (.int .i64 m.time) (.int .i64 m.dir) (.int .i64 m.ahead) (.bool m.whole) (.slice pA pl pc)
          clear hz q0 r0 q1 r1 q2 r2 q3 r3 q4 r4 q5 r5 q6 r6
          have ne0 : g0 ≠ n7 := Row.ne HR0U22.out HN7U22.out (by decide)
          have ne1 : g1 ≠ n7 := Row.ne HR1U22.out HN7U22.out (by decide)
          have k0 := Lib.hid (hp.2.2.row HR0U22.out (by simpa using ne0)); have k1 := Lib.hid (hp.2.2.row HR1U22.out (by simpa using ne1))
          have k7 := Lib.hid hp.1; have k8 := Lib.hid (hp.2.2.row HN8U22.out (by simpa using HNE.out.symm))
          have kv1 := Lib.hid (HV1U22.out.kept hp.2.2 (Other.one HN7U22.out (by decide))); have kv2 := Lib.hid (HV2U22.out.kept hp.2.2 (Other.one HN7U22.out (by decide)))
          have kb : Hid (Below w.heap.size w (((((((U22.setCell ⟨n7, 0, none⟩ (.int .u8 (m.kind : Int))).setCell ⟨n7, 1, none⟩ (.int .i64 m.train)).setCell ⟨n7, 2, none⟩ (.int .i64 m.time)).setCell ⟨n7, 3, none⟩ (.int .i64 m.dir)).setCell ⟨n7, 4, none⟩ (.int .i64 m.ahead)).setCell ⟨n7, 5, none⟩ (.bool m.whole)).setCell ⟨n7, 6, none⟩ (.slice pA pl pc))) := HBU22.out.trans (hp.2.1.mono HG7.out)
          clear hp ne0 ne1
          clear HBU22 HR0U22 HR1U22 HV1U22 HV2U22 HN7U22 HN8U22
          generalize (((((((U22.setCell ⟨n7, 0, none⟩ (.int .u8 (m.kind : Int))).setCell ⟨n7, 1, none⟩ (.int .i64 m.train)).setCell ⟨n7, 2, none⟩ (.int .i64 m.time)).setCell ⟨n7, 3, none⟩ (.int .i64 m.dir)).setCell ⟨n7, 4, none⟩ (.int .i64 m.ahead)).setCell ⟨n7, 5, none⟩ (.bool m.whole)).setCell ⟨n7, 6, none⟩ (.slice pA pl pc)) = U23 at *
          first | refine ⟨⟨k0.out, k1.out⟩, ?_⟩ | refine ⟨fun _ => ⟨k0.out, k1.out⟩, ?_⟩
          refine AnyBut.one 7 rfl (by kernel_rfl) (by rfl) ?_
          have hz := k8.out
          have q0 := hz.cell 0; have r0 := hz.frozen 0
          have q1 := hz.cell 1; have r1 := hz.frozen 1
          have q2 := hz.cell 2; have r2 := hz.frozen 2
          have q3 := hz.cell 3; have r3 := hz.frozen 3
          have q4 := hz.cell 4; have r4 := hz.frozen 4
          have q5 := hz.cell 5; have r5 := hz.frozen 5
          have q6 := hz.cell 6; have r6 := hz.frozen 6
          simp only [List.getElem?_toArray, List.getElem?_cons_zero, List.getElem?_cons_succ] at q0 q1 q2 q3 q4 q5 q6
          go_simp
          have hp := put7 hz (.int .u8 (n.kind : Int)) (.int .i64 n.train) (.int .i64 n.time) (.int .i64 n.dir) (.int .i64 n.ahead) (.bool n.whole) (.slice sA sl sc)
          clear hz q0 r0 q1 r1 q2 r2 q3 r3 q4 r4 q5 r5 q6 r6
          have ne0 : g0 ≠ n8 := Row.ne k0.out k8.out (by decide)
          have HX : Hid (Row (((((((U23.setCell ⟨n8, 0, none⟩ (.int .u8 (n.kind : Int))).setCell ⟨n8, 1, none⟩ (.int .i64 n.train)).setCell ⟨n8, 2, none⟩ (.int .i64 n.time)).setCell ⟨n8, 3, none⟩ (.int .i64 n.dir)).setCell ⟨n8, 4, none⟩ (.int .i64 n.ahead)).setCell ⟨n8, 5, none⟩ (.bool n.whole)).setCell ⟨n8, 6, none⟩ (.slice sA sl sc)) n7 29 #[.int .u8 (m.kind : Int), .int .i64 m.train, .int .i64 m.time, .int .i64 m.dir, .int .i64 m.ahead, .bool m.whole, .slice pA pl pc] ∧ Row (((((((U23.setCell ⟨n8, 0, none⟩ (.int .u8 (n.kind : Int))).setCell ⟨n8, 1, none⟩ (.int .i64 n.train)).setCell ⟨n8, 2, none⟩ (.int .i64 n.time)).setCell ⟨n8, 3, none⟩ (.int .i64 n.dir)).setCell ⟨n8, 4, none⟩ (.int .i64 n.ahead)).setCell ⟨n8, 5, none⟩ (.bool n.whole)).setCell ⟨n8, 6, none⟩ (.slice sA sl sc)) n8 29 #[.int .u8 (n.kind : Int), .int .i64 n.train, .int .i64 n.time, .int .i64 n.dir, .int .i64 n.ahead, .bool n.whole, .slice sA sl sc] ∧ Tl (((((((U23.setCell ⟨n8, 0, none⟩ (.int .u8 (n.kind : Int))).setCell ⟨n8, 1, none⟩ (.int .i64 n.train)).setCell ⟨n8, 2, none⟩ (.int .i64 n.time)).setCell ⟨n8, 3, none⟩ (.int .i64 n.dir)).setCell ⟨n8, 4, none⟩ (.int .i64 n.ahead)).setCell ⟨n8, 5, none⟩ (.bool n.whole)).setCell ⟨n8, 6, none⟩ (.slice sA sl sc)) 3 (.slice pA pl pc) (ivals m.trail) ∧ Tl (((((((U23.setCell ⟨n8, 0, none⟩ (.int .u8 (n.kind : Int))).setCell ⟨n8, 1, none⟩ (.int .i64 n.train)).setCell ⟨n8, 2, none⟩ (.int .i64 n.time)).setCell ⟨n8, 3, none⟩ (.int .i64 n.dir)).setCell ⟨n8, 4, none⟩ (.int .i64 n.ahead)).setCell ⟨n8, 5, none⟩ (.bool n.whole)).setCell ⟨n8, 6, none⟩ (.slice sA sl sc)) 3 (.slice sA sl sc) (ivals n.trail) ∧ Row (((((((U23.setCell ⟨n8, 0, none⟩ (.int .u8 (n.kind : Int))).setCell ⟨n8, 1, none⟩ (.int .i64 n.train)).setCell ⟨n8, 2, none⟩ (.int .i64 n.time)).setCell ⟨n8, 3, none⟩ (.int .i64 n.dir)).setCell ⟨n8, 4, none⟩ (.int .i64 n.ahead)).setCell ⟨n8, 5, none⟩ (.bool n.whole)).setCell ⟨n8, 6, none⟩ (.slice sA sl sc)) g0 26 #[.int .u8 (s0.kind : Int), .int .u8 (s0.train : Int), .int .u8 (s0.dir : Int), .int .u32 (s0.time : Int), .int .u16 (s0.ahead : Int), .bool s0.whole, .slice A0 l0 c0] ∧ Below w.heap.size w (((((((U23.setCell ⟨n8, 0, none⟩ (.int .u8 (n.kind : Int))).setCell ⟨n8, 1, none⟩ (.int .i64 n.train)).setCell ⟨n8, 2, none⟩ (.int .i64 n.time)).setCell ⟨n8, 3, none⟩ (.int .i64 n.dir)).setCell ⟨n8, 4, none⟩ (.int .i64 n.ahead)).setCell ⟨n8, 5, none⟩ (.bool n.whole)).setCell ⟨n8, 6, none⟩ (.slice sA sl sc))) :=
            ⟨hp.2.2.row k7.out (by simpa using HNE.out), hp.1, kv1.out.kept hp.2.2 (Other.one k8.out (by decide)), kv2.out.kept hp.2.2 (Other.one k8.out (by decide)), hp.2.2.row k0.out (by simpa using ne0), kb.out.trans (hp.2.1.mono HG8.out)⟩
          clear hp ne0 k0 k1 k7 k8 kv1 kv2 kb
          generalize (((((((U23.setCell ⟨n8, 0, none⟩ (.int .u8 (n.kind : Int))).setCell ⟨n8, 1, none⟩ (.int .i64 n.train)).setCell ⟨n8, 2, none⟩ (.int .i64 n.time)).setCell ⟨n8, 3, none⟩ (.int .i64 n.dir)).setCell ⟨n8, 4, none⟩ (.int .i64 n.ahead)).setCell ⟨n8, 5, none⟩ (.bool n.whole)).setCell ⟨n8, 6, none⟩ (.slice sA sl sc)) = U24 at *
          refine AnyBut.done (by kernel_rfl) ?_
          go_wp2_with fail
          go_meet
          case rel => exact ⟨n7, n8, pA, pl, pc, sA, sl, sc, rfl, rfl, HX⟩
        · go_simp
          have hb := (Below.refl U20.heap.size U20).alloc (Nat.le_refl _) (.cells #[.int .u8 0, .int .i64 0, .int .i64 0, .int .i64 0, .int .i64 0, .bool false, .slice none 0 0] 29)
          have HBU25 := Lib.hid (HBU20.out.trans (hb.mono HBU20.out.size))
          have HR0U25 := Lib.hid (Below.row hb HR0U20.out HR0U20.out.lt)
          have HR1U25 := Lib.hid (Below.row hb HR1U20.out HR1U20.out.lt)
          have HV1U25 := Lib.hid (HV1U20.out.below hb)
          have HN8U25 := Lib.hid (Below.row hb HN8U20.out HN8U20.out.lt)
          have HN7U25 := Lib.hid (Row.new U20 29 #[.int .u8 0, .int .i64 0, .int .i64 0, .int .i64 0, .int .i64 0, .bool false, .slice none 0 0])
          have HG7 : Hid (w.heap.size ≤ U20.heap.size) := HBU20.out.size
          have HNE : Hid (U20.heap.size ≠ n8) := by show _ ≠ _; have := HN8U20.out.lt; omega
          clear hb
          clear HBU20 HR0U20 HR1U20 HV1U20 HN8U20
          obtain ⟨n7, hn7⟩ : ∃ x, x = U20.heap.size := ⟨_, rfl⟩
          rw [← hn7] at HN7U25 HG7 HNE ⊢
          clear hn7
          generalize U20.alloc (.cells #[.int .u8 0, .int .i64 0, .int .i64 0, .int .i64 0, .int .i64 0, .bool false, .slice none 0 0] 29) = U25 at *
          first | refine ⟨⟨HR0U25.out, HR1U25.out⟩, ?_⟩ | refine ⟨fun _ => ⟨HR0U25.out, HR1U25.out⟩, ?_⟩
          refine AnyBut.one 3 rfl (by kernel_rfl) (by rfl) ?_
          go_simp
          refine (ofSay_t U25 s1 _ HOK1.out (HD1.out U25 HBU25.out)).mono ?_
          rintro e U26 ⟨VV, rfl, hv, hb⟩
          rw [HNN.out] at hv ⊢
          obtain ⟨sA, sl, sc, hva⟩ := hv.slice
          subst hva
          unfold msgV
          have HBU26 := Lib.hid (HBU25.out.trans (hb.mono HBU25.out.size))
          have HR0U26 := Lib.hid (Below.row hb HR0U25.out HR0U25.out.lt)
          have HR1U26 := Lib.hid (Below.row hb HR1U25.out HR1U25.out.lt)
          have HV1U26 := Lib.hid (HV1U25.out.below hb)
          have HN7U26 := Lib.hid (Below.row hb HN7U25.out HN7U25.out.lt)
          have HN8U26 := Lib.hid (Below.row hb HN8U25.out HN8U25.out.lt)
          have HV2U26 := Lib.hid hv
          clear hb hv
          clear HBU25 HR0U25 HR1U25 HV1U25 HN7U25 HN8U25
          first | refine ⟨⟨HR0U26.out, HR1U26.out⟩, ?_⟩ | refine ⟨fun _ => ⟨HR0U26.out, HR1U26.out⟩, ?_⟩
          refine AnyBut.one 6 rfl (by kernel_rfl) (by rfl) ?_
          have hz := HN7U26.out
          have q0 := hz.cell 0; have r0 := hz.frozen 0
          have q1 := hz.cell 1; have r1 := hz.frozen 1
          have q2 := hz.cell 2; have r2 := hz.frozen 2
          have q3 := hz.cell 3; have r3 := hz.frozen 3
          have q4 := hz.cell 4; have r4 := hz.frozen 4
          have q5 := hz.cell 5; have r5 := hz.frozen 5
          have q6 := hz.cell 6; have r6 := hz.frozen 6
          simp only [List.getElem?_toArray, List.getElem?_cons_zero, List.getElem?_cons_succ] at q0 q1 q2 q3 q4 q5 q6
          go_simp
          have hp := put7 hz (.int .u8 (m.kind : Int)) (.int .i64 m.train) (.int .i64 m.time) (.int .i64 m.dir) (.int .i64 m.ahead) (.bool m.whole) (.slice pA pl pc)
          clear hz q0 r0 q1 r1 q2 r2 q3 r3 q4 r4 q5 r5 q6 r6
          have ne0 : g0 ≠ n7 := Row.ne HR0U26.out HN7U26.out (by decide)
          have ne1 : g1 ≠ n7 := Row.ne HR1U26.out HN7U26.out (by decide)
          have k0 := Lib.hid (hp.2.2.row HR0U26.out (by simpa using ne0)); have k1 := Lib.hid (hp.2.2.row HR1U26.out (by simpa using ne1))
          have k7 := Lib.hid hp.1; have k8 := Lib.hid (hp.2.2.row HN8U26.out (by simpa using HNE.out.symm))
          have kv1 := Lib.hid (HV1U26.out.kept hp.2.2 (Other.one HN7U26.out (by decide))); have kv2 := Lib.hid (HV2U26.out.kept hp.2.2 (Other.one HN7U26.out (by decide)))
          have kb : Hid (Below w.heap.size w (((((((U26.setCell ⟨n7, 0, none⟩ (.int .u8 (m.kind : Int))).setCell ⟨n7, 1, none⟩ (.int .i64 m.train)).setCell ⟨n7, 2, none⟩ (.int .i64 m.time)).setCell ⟨n7, 3, none⟩ (.int .i64 m.dir)).setCell ⟨n7, 4, none⟩ (.int .i64 m.ahead)).setCell ⟨n7, 5, none⟩ (.bool m.whole)).setCell ⟨n7, 6, none⟩ (.slice pA pl pc))) := HBU26.out.trans (hp.2.1.mono HG7.out)
          clear hp ne0 ne1
          clear HBU26 HR0U26 HR1U26 HV1U26 HV2U26 HN7U26 HN8U26
          generalize (((((((U26.setCell ⟨n7, 0, none⟩ (.int .u8 (m.kind : Int))).setCell ⟨n7, 1, none⟩ (.int .i64 m.train)).setCell ⟨n7, 2, none⟩ (.int .i64 m.time)).setCell ⟨n7, 3, none⟩ (.int .i64 m.dir)).setCell ⟨n7, 4, none⟩ (.int .i64 m.ahead)).setCell ⟨n7, 5, none⟩ (.bool m.whole)).setCell ⟨n7, 6, none⟩ (.slice pA pl pc)) = U27 at *
          first | refine ⟨⟨k0.out, k1.out⟩, ?_⟩ | refine ⟨fun _ => ⟨k0.out, k1.out⟩, ?_⟩
          refine AnyBut.one 7 rfl (by kernel_rfl) (by rfl) ?_
          have hz := k8.out
          have q0 := hz.cell 0; have r0 := hz.frozen 0
          have q1 := hz.cell 1; have r1 := hz.frozen 1
          have q2 := hz.cell 2; have r2 := hz.frozen 2
          have q3 := hz.cell 3; have r3 := hz.frozen 3
          have q4 := hz.cell 4; have r4 := hz.frozen 4
          have q5 := hz.cell 5; have r5 := hz.frozen 5
          have q6 := hz.cell 6; have r6 := hz.frozen 6
          simp only [List.getElem?_toArray, List.getElem?_cons_zero, List.getElem?_cons_succ] at q0 q1 q2 q3 q4 q5 q6
          go_simp
          have hp := put7 hz (.int .u8 (n.kind : Int)) (.int .i64 n.train) (.int .i64 n.time) (.int .i64 n.dir) (.int .i64 n.ahead) (.bool n.whole) (.slice sA sl sc)
          clear hz q0 r0 q1 r1 q2 r2 q3 r3 q4 r4 q5 r5 q6 r6
          have ne0 : g0 ≠ n8 := Row.ne k0.out k8.out (by decide)
          have HX : Hid (Row (((((((U27.setCell ⟨n8, 0, none⟩ (.int .u8 (n.kind : Int))).setCell ⟨n8, 1, none⟩ (.int .i64 n.train)).setCell ⟨n8, 2, none⟩ (.int .i64 n.time)).setCell ⟨n8, 3, none⟩ (.int .i64 n.dir)).setCell ⟨n8, 4, none⟩ (.int .i64 n.ahead)).setCell ⟨n8, 5, none⟩ (.bool n.whole)).setCell ⟨n8, 6, none⟩ (.slice sA sl sc)) n7 29 #[.int .u8 (m.kind : Int), .int .i64 m.train, .int .i64 m.time, .int .i64 m.dir, .int .i64 m.ahead, .bool m.whole, .slice pA pl pc] ∧ Row (((((((U27.setCell ⟨n8, 0, none⟩ (.int .u8 (n.kind : Int))).setCell ⟨n8, 1, none⟩ (.int .i64 n.train)).setCell ⟨n8, 2, none⟩ (.int .i64 n.time)).setCell ⟨n8, 3, none⟩ (.int .i64 n.dir)).setCell ⟨n8, 4, none⟩ (.int .i64 n.ahead)).setCell ⟨n8, 5, none⟩ (.bool n.whole)).setCell ⟨n8, 6, none⟩ (.slice sA sl sc)) n8 29 #[.int .u8 (n.kind : Int), .int .i64 n.train, .int .i64 n.time, .int .i64 n.dir, .int .i64 n.ahead, .bool n.whole, .slice sA sl sc] ∧ Tl (((((((U27.setCell ⟨n8, 0, none⟩ (.int .u8 (n.kind : Int))).setCell ⟨n8, 1, none⟩ (.int .i64 n.train)).setCell ⟨n8, 2, none⟩ (.int .i64 n.time)).setCell ⟨n8, 3, none⟩ (.int .i64 n.dir)).setCell ⟨n8, 4, none⟩ (.int .i64 n.ahead)).setCell ⟨n8, 5, none⟩ (.bool n.whole)).setCell ⟨n8, 6, none⟩ (.slice sA sl sc)) 3 (.slice pA pl pc) (ivals m.trail) ∧ Tl (((((((U27.setCell ⟨n8, 0, none⟩ (.int .u8 (n.kind : Int))).setCell ⟨n8, 1, none⟩ (.int .i64 n.train)).setCell ⟨n8, 2, none⟩ (.int .i64 n.time)).setCell ⟨n8, 3, none⟩ (.int .i64 n.dir)).setCell ⟨n8, 4, none⟩ (.int .i64 n.ahead)).setCell ⟨n8, 5, none⟩ (.bool n.whole)).setCell ⟨n8, 6, none⟩ (.slice sA sl sc)) 3 (.slice sA sl sc) (ivals n.trail) ∧ Row (((((((U27.setCell ⟨n8, 0, none⟩ (.int .u8 (n.kind : Int))).setCell ⟨n8, 1, none⟩ (.int .i64 n.train)).setCell ⟨n8, 2, none⟩ (.int .i64 n.time)).setCell ⟨n8, 3, none⟩ (.int .i64 n.dir)).setCell ⟨n8, 4, none⟩ (.int .i64 n.ahead)).setCell ⟨n8, 5, none⟩ (.bool n.whole)).setCell ⟨n8, 6, none⟩ (.slice sA sl sc)) g0 26 #[.int .u8 (s0.kind : Int), .int .u8 (s0.train : Int), .int .u8 (s0.dir : Int), .int .u32 (s0.time : Int), .int .u16 (s0.ahead : Int), .bool s0.whole, .slice A0 l0 c0] ∧ Below w.heap.size w (((((((U27.setCell ⟨n8, 0, none⟩ (.int .u8 (n.kind : Int))).setCell ⟨n8, 1, none⟩ (.int .i64 n.train)).setCell ⟨n8, 2, none⟩ (.int .i64 n.time)).setCell ⟨n8, 3, none⟩ (.int .i64 n.dir)).setCell ⟨n8, 4, none⟩ (.int .i64 n.ahead)).setCell ⟨n8, 5, none⟩ (.bool n.whole)).setCell ⟨n8, 6, none⟩ (.slice sA sl sc))) :=
            ⟨hp.2.2.row k7.out (by simpa using HNE.out), hp.1, kv1.out.kept hp.2.2 (Other.one k8.out (by decide)), kv2.out.kept hp.2.2 (Other.one k8.out (by decide)), hp.2.2.row k0.out (by simpa using ne0), kb.out.trans (hp.2.1.mono HG8.out)⟩
          clear hp ne0 k0 k1 k7 k8 kv1 kv2 kb
          generalize (((((((U27.setCell ⟨n8, 0, none⟩ (.int .u8 (n.kind : Int))).setCell ⟨n8, 1, none⟩ (.int .i64 n.train)).setCell ⟨n8, 2, none⟩ (.int .i64 n.time)).setCell ⟨n8, 3, none⟩ (.int .i64 n.dir)).setCell ⟨n8, 4, none⟩ (.int .i64 n.ahead)).setCell ⟨n8, 5, none⟩ (.bool n.whole)).setCell ⟨n8, 6, none⟩ (.slice sA sl sc)) = U28 at *
          refine AnyBut.done (by kernel_rfl) ?_
          go_wp2_with fail
          go_meet
          case rel => exact ⟨n7, n8, pA, pl, pc, sA, sl, sc, rfl, rfl, HX⟩
    · go_simp
      have hb := (Below.refl U0.heap.size U0).alloc (Nat.le_refl _) (.cells #[.int .u8 0, .int .i64 0, .int .i64 0, .int .i64 0, .int .i64 0, .bool false, .slice none 0 0] 29)
      have HBU29 := Lib.hid (HBU0.out.trans (hb.mono HBU0.out.size))
      have HR0U29 := Lib.hid (Below.row hb HR0U0.out HR0U0.out.lt)
      have HR1U29 := Lib.hid (Below.row hb HR1U0.out HR1U0.out.lt)
      have HN7U29 := Lib.hid (Row.new U0 29 #[.int .u8 0, .int .i64 0, .int .i64 0, .int .i64 0, .int .i64 0, .bool false, .slice none 0 0])
      have HG7 : Hid (w.heap.size ≤ U0.heap.size) := HBU0.out.size
      clear hb
      clear HBU0 HR0U0 HR1U0
      obtain ⟨n7, hn7⟩ : ∃ x, x = U0.heap.size := ⟨_, rfl⟩
      rw [← hn7] at HN7U29 HG7 ⊢
      clear hn7
      generalize U0.alloc (.cells #[.int .u8 0, .int .i64 0, .int .i64 0, .int .i64 0, .int .i64 0, .bool false, .slice none 0 0] 29) = U29 at *
      first | refine ⟨⟨HR0U29.out, HR1U29.out⟩, ?_⟩ | refine ⟨fun _ => ⟨HR0U29.out, HR1U29.out⟩, ?_⟩
      refine any_two 1 5 rfl rfl (by kernel_rfl) (by rfl) (by rfl) ?_ ?_
      · go_simp
        refine (ofSay_t U29 s0 _ HOK0.out (HD0.out U29 HBU29.out)).mono ?_
        rintro e U30 ⟨VV, rfl, hv, hb⟩
        rw [HMM.out] at hv ⊢
        obtain ⟨pA, pl, pc, hva⟩ := hv.slice
        subst hva
        unfold msgV
        have HBU30 := Lib.hid (HBU29.out.trans (hb.mono HBU29.out.size))
        have HR0U30 := Lib.hid (Below.row hb HR0U29.out HR0U29.out.lt)
        have HR1U30 := Lib.hid (Below.row hb HR1U29.out HR1U29.out.lt)
        have HN7U30 := Lib.hid (Below.row hb HN7U29.out HN7U29.out.lt)
        have HV1U30 := Lib.hid hv
        clear hb hv
        clear HBU29 HR0U29 HR1U29 HN7U29
        first | refine ⟨⟨HR0U30.out, HR1U30.out⟩, ?_⟩ | refine ⟨fun _ => ⟨HR0U30.out, HR1U30.out⟩, ?_⟩
        refine any_two 3 5 rfl rfl (by kernel_rfl) (by rfl) (by rfl) ?_ ?_
        · go_simp
          refine (ofSay_t U30 s1 _ HOK1.out (HD1.out U30 HBU30.out)).mono ?_
          rintro e U31 ⟨VV, rfl, hv, hb⟩
          rw [HNN.out] at hv ⊢
          obtain ⟨sA, sl, sc, hva⟩ := hv.slice
          subst hva
          unfold msgV
          have HBU31 := Lib.hid (HBU30.out.trans (hb.mono HBU30.out.size))
          have HR0U31 := Lib.hid (Below.row hb HR0U30.out HR0U30.out.lt)
          have HR1U31 := Lib.hid (Below.row hb HR1U30.out HR1U30.out.lt)
          have HV1U31 := Lib.hid (HV1U30.out.below hb)
          have HN7U31 := Lib.hid (Below.row hb HN7U30.out HN7U30.out.lt)
          have HV2U31 := Lib.hid hv
          clear hb hv
          clear HBU30 HR0U30 HR1U30 HV1U30 HN7U30
          first | refine ⟨⟨HR0U31.out, HR1U31.out⟩, ?_⟩ | refine ⟨fun _ => ⟨HR0U31.out, HR1U31.out⟩, ?_⟩
          refine AnyBut.one 5 rfl (by kernel_rfl) (by rfl) ?_
          go_simp
          have hb := (Below.refl U31.heap.size U31).alloc (Nat.le_refl _) (.cells #[.int .u8 0, .int .i64 0, .int .i64 0, .int .i64 0, .int .i64 0, .bool false, .slice none 0 0] 29)
          have HBU32 := Lib.hid (HBU31.out.trans (hb.mono HBU31.out.size))
          have HR0U32 := Lib.hid (Below.row hb HR0U31.out HR0U31.out.lt)
          have HR1U32 := Lib.hid (Below.row hb HR1U31.out HR1U31.out.lt)
          have HV1U32 := Lib.hid (HV1U31.out.below hb)
          have HV2U32 := Lib.hid (HV2U31.out.below hb)
          have HN7U32 := Lib.hid (Below.row hb HN7U31.out HN7U31.out.lt)
          have HN8U32 := Lib.hid (Row.new U31 29 #[.int .u8 0, .int .i64 0, .int .i64 0, .int .i64 0, .int .i64 0, .bool false, .slice none 0 0])
          have HG8 : Hid (w.heap.size ≤ U31.heap.size) := HBU31.out.size
          have HNE : Hid (n7 ≠ U31.heap.size) := by show _ ≠ _; have := HN7U31.out.lt; omega
          clear hb
          clear HBU31 HR0U31 HR1U31 HV1U31 HV2U31 HN7U31
          obtain ⟨n8, hn8⟩ : ∃ x, x = U31.heap.size := ⟨_, rfl⟩
          rw [← hn8] at HN8U32 HG8 HNE ⊢
          clear hn8
          generalize U31.alloc (.cells #[.int .u8 0, .int .i64 0, .int .i64 0, .int .i64 0, .int .i64 0, .bool false, .slice none 0 0] 29) = U32 at *
          first | refine ⟨⟨HR0U32.out, HR1U32.out⟩, ?_⟩ | refine ⟨fun _ => ⟨HR0U32.out, HR1U32.out⟩, ?_⟩
          refine AnyBut.one 6 rfl (by kernel_rfl) (by rfl) ?_
          have hz := HN7U32.out
          have q0 := hz.cell 0; have r0 := hz.frozen 0
          have q1 := hz.cell 1; have r1 := hz.frozen 1
          have q2 := hz.cell 2; have r2 := hz.frozen 2
          have q3 := hz.cell 3; have r3 := hz.frozen 3
          have q4 := hz.cell 4; have r4 := hz.frozen 4
          have q5 := hz.cell 5; have r5 := hz.frozen 5
          have q6 := hz.cell 6; have r6 := hz.frozen 6
          simp only [List.getElem?_toArray, List.getElem?_cons_zero, List.getElem?_cons_succ] at q0 q1 q2 q3 q4 q5 q6
          go_simp
          have hp := put7 hz (.int .u8 (m.kind : Int)) (.int .i64 m.train) (.int .i64 m.time) (.int .i64 m.dir) (.int .i64 m.ahead) (.bool m.whole) (.slice pA pl pc)
          clear hz q0 r0 q1 r1 q2 r2 q3 r3 q4 r4 q5 r5 q6 r6
          have ne0 : g0 ≠ n7 := Row.ne HR0U32.out HN7U32.out (by decide)
          have ne1 : g1 ≠ n7 := Row.ne HR1U32.out HN7U32.out (by decide)
          have k0 := Lib.hid (hp.2.2.row HR0U32.out (by simpa using ne0)); have k1 := Lib.hid (hp.2.2.row HR1U32.out (by simpa using ne1))
          have k7 := Lib.hid hp.1; have k8 := Lib.hid (hp.2.2.row HN8U32.out (by simpa using HNE.out.symm))
          have kv1 := Lib.hid (HV1U32.out.kept hp.2.2 (Other.one HN7U32.out (by decide))); have kv2 := Lib.hid (HV2U32.out.kept hp.2.2 (Other.one HN7U32.out (by decide)))
          have kb : Hid (Below w.heap.size w (((((((U32.setCell ⟨n7, 0, none⟩ (.int .u8 (m.kind : Int))).setCell ⟨n7, 1, none⟩ (.int .i64 m.train)).setCell ⟨n7, 2, none⟩ (.int .i64 m.time)).setCell ⟨n7, 3, none⟩ (.int .i64 m.dir)).setCell ⟨n7, 4, none⟩ (.int .i64 m.ahead)).setCell ⟨n7, 5, none⟩ (.bool m.whole)).setCell ⟨n7, 6, none⟩ (.slice pA pl pc))) := HBU32.out.trans (hp.2.1.mono HG7.out)
          clear hp ne0 ne1
          clear HBU32 HR0U32 HR1U32 HV1U32 HV2U32 HN7U32 HN8U32
          generalize (((((((U32.setCell ⟨n7, 0, none⟩ (.int .u8 (m.kind : Int))).setCell ⟨n7, 1, none⟩ (.int .i64 m.train)).setCell ⟨n7, 2, none⟩ (.int .i64 m.time)).setCell ⟨n7, 3, none⟩ (.int .i64 m.dir)).setCell ⟨n7, 4, none⟩ (.int .i64 m.ahead)).setCell ⟨n7, 5, none⟩ (.bool m.whole)).setCell ⟨n7, 6, none⟩ (.slice pA pl pc)) = U33 at *
          first | refine ⟨⟨k0.out, k1.out⟩, ?_⟩ | refine ⟨fun _ => ⟨k0.out, k1.out⟩, ?_⟩
          refine AnyBut.one 7 rfl (by kernel_rfl) (by rfl) ?_
          have hz := k8.out
          have q0 := hz.cell 0; have r0 := hz.frozen 0
          have q1 := hz.cell 1; have r1 := hz.frozen 1
          have q2 := hz.cell 2; have r2 := hz.frozen 2
          have q3 := hz.cell 3; have r3 := hz.frozen 3
          have q4 := hz.cell 4; have r4 := hz.frozen 4
          have q5 := hz.cell 5; have r5 := hz.frozen 5
          have q6 := hz.cell 6; have r6 := hz.frozen 6
          simp only [List.getElem?_toArray, List.getElem?_cons_zero, List.getElem?_cons_succ] at q0 q1 q2 q3 q4 q5 q6
          go_simp
          have hp := put7 hz (.int .u8 (n.kind : Int)) (.int .i64 n.train) (.int .i64 n.time) (.int .i64 n.dir) (.int .i64 n.ahead) (.bool n.whole) (.slice sA sl sc)
          clear hz q0 r0 q1 r1 q2 r2 q3 r3 q4 r4 q5 r5 q6 r6
          have ne0 : g0 ≠ n8 := Row.ne k0.out k8.out (by decide)
          have HX : Hid (Row (((((((U33.setCell ⟨n8, 0, none⟩ (.int .u8 (n.kind : Int))).setCell ⟨n8, 1, none⟩ (.int .i64 n.train)).setCell ⟨n8, 2, none⟩ (.int .i64 n.time)).setCell ⟨n8, 3, none⟩ (.int .i64 n.dir)).setCell ⟨n8, 4, none⟩ (.int .i64 n.ahead)).setCell ⟨n8, 5, none⟩ (.bool n.whole)).setCell ⟨n8, 6, none⟩ (.slice sA sl sc)) n7 29 #[.int .u8 (m.kind : Int), .int .i64 m.train, .int .i64 m.time, .int .i64 m.dir, .int .i64 m.ahead, .bool m.whole, .slice pA pl pc] ∧ Row (((((((U33.setCell ⟨n8, 0, none⟩ (.int .u8 (n.kind : Int))).setCell ⟨n8, 1, none⟩ (.int .i64 n.train)).setCell ⟨n8, 2, none⟩ (.int .i64 n.time)).setCell ⟨n8, 3, none⟩ (.int .i64 n.dir)).setCell ⟨n8, 4, none⟩ (.int .i64 n.ahead)).setCell ⟨n8, 5, none⟩ (.bool n.whole)).setCell ⟨n8, 6, none⟩ (.slice sA sl sc)) n8 29 #[.int .u8 (n.kind : Int), .int .i64 n.train, .int .i64 n.time, .int .i64 n.dir, .int .i64 n.ahead, .bool n.whole, .slice sA sl sc] ∧ Tl (((((((U33.setCell ⟨n8, 0, none⟩ (.int .u8 (n.kind : Int))).setCell ⟨n8, 1, none⟩ (.int .i64 n.train)).setCell ⟨n8, 2, none⟩ (.int .i64 n.time)).setCell ⟨n8, 3, none⟩ (.int .i64 n.dir)).setCell ⟨n8, 4, none⟩ (.int .i64 n.ahead)).setCell ⟨n8, 5, none⟩ (.bool n.whole)).setCell ⟨n8, 6, none⟩ (.slice sA sl sc)) 3 (.slice pA pl pc) (ivals m.trail) ∧ Tl (((((((U33.setCell ⟨n8, 0, none⟩ (.int .u8 (n.kind : Int))).setCell ⟨n8, 1, none⟩ (.int .i64 n.train)).setCell ⟨n8, 2, none⟩ (.int .i64 n.time)).setCell ⟨n8, 3, none⟩ (.int .i64 n.dir)).setCell ⟨n8, 4, none⟩ (.int .i64 n.ahead)).setCell ⟨n8, 5, none⟩ (.bool n.whole)).setCell ⟨n8, 6, none⟩ (.slice sA sl sc)) 3 (.slice sA sl sc) (ivals n.trail) ∧ Row (((((((U33.setCell ⟨n8, 0, none⟩ (.int .u8 (n.kind : Int))).setCell ⟨n8, 1, none⟩ (.int .i64 n.train)).setCell ⟨n8, 2, none⟩ (.int .i64 n.time)).setCell ⟨n8, 3, none⟩ (.int .i64 n.dir)).setCell ⟨n8, 4, none⟩ (.int .i64 n.ahead)).setCell ⟨n8, 5, none⟩ (.bool n.whole)).setCell ⟨n8, 6, none⟩ (.slice sA sl sc)) g0 26 #[.int .u8 (s0.kind : Int), .int .u8 (s0.train : Int), .int .u8 (s0.dir : Int), .int .u32 (s0.time : Int), .int .u16 (s0.ahead : Int), .bool s0.whole, .slice A0 l0 c0] ∧ Below w.heap.size w (((((((U33.setCell ⟨n8, 0, none⟩ (.int .u8 (n.kind : Int))).setCell ⟨n8, 1, none⟩ (.int .i64 n.train)).setCell ⟨n8, 2, none⟩ (.int .i64 n.time)).setCell ⟨n8, 3, none⟩ (.int .i64 n.dir)).setCell ⟨n8, 4, none⟩ (.int .i64 n.ahead)).setCell ⟨n8, 5, none⟩ (.bool n.whole)).setCell ⟨n8, 6, none⟩ (.slice sA sl sc))) :=
            ⟨hp.2.2.row k7.out (by simpa using HNE.out), hp.1, kv1.out.kept hp.2.2 (Other.one k8.out (by decide)), kv2.out.kept hp.2.2 (Other.one k8.out (by decide)), hp.2.2.row k0.out (by simpa using ne0), kb.out.trans (hp.2.1.mono HG8.out)⟩
          clear hp ne0 k0 k1 k7 k8 kv1 kv2 kb
          generalize (((((((U33.setCell ⟨n8, 0, none⟩ (.int .u8 (n.kind : Int))).setCell ⟨n8, 1, none⟩ (.int .i64 n.train)).setCell ⟨n8, 2, none⟩ (.int .i64 n.time)).setCell ⟨n8, 3, none⟩ (.int .i64 n.dir)).setCell ⟨n8, 4, none⟩ (.int .i64 n.ahead)).setCell ⟨n8, 5, none⟩ (.bool n.whole)).setCell ⟨n8, 6, none⟩ (.slice sA sl sc)) = U34 at *
          refine AnyBut.done (by kernel_rfl) ?_
          go_wp2_with fail
          go_meet
          case rel => exact ⟨n7, n8, pA, pl, pc, sA, sl, sc, rfl, rfl, HX⟩
        · go_simp
          have hb := (Below.refl U30.heap.size U30).alloc (Nat.le_refl _) (.cells #[.int .u8 0, .int .i64 0, .int .i64 0, .int .i64 0, .int .i64 0, .bool false, .slice none 0 0] 29)
          have HBU35 := Lib.hid (HBU30.out.trans (hb.mono HBU30.out.size))
          have HR0U35 := Lib.hid (Below.row hb HR0U30.out HR0U30.out.lt)
          have HR1U35 := Lib.hid (Below.row hb HR1U30.out HR1U30.out.lt)
          have HV1U35 := Lib.hid (HV1U30.out.below hb)
          have HN7U35 := Lib.hid (Below.row hb HN7U30.out HN7U30.out.lt)
          have HN8U35 := Lib.hid (Row.new U30 29 #[.int .u8 0, .int .i64 0, .int .i64 0, .int .i64 0, .int .i64 0, .bool false, .slice none 0 0])
          have HG8 : Hid (w.heap.size ≤ U30.heap.size) := HBU30.out.size
          have HNE : Hid (n7 ≠ U30.heap.size) := by show _ ≠ _; have := HN7U30.out.lt; omega
          clear hb
          clear HBU30 HR0U30 HR1U30 HV1U30 HN7U30
          obtain ⟨n8, hn8⟩ : ∃ x, x = U30.heap.size := ⟨_, rfl⟩
          rw [← hn8] at HN8U35 HG8 HNE ⊢
          clear hn8
          generalize U30.alloc (.cells #[.int .u8 0, .int .i64 0, .int .i64 0, .int .i64 0, .int .i64 0, .bool false, .slice none 0 0] 29) = U35 at *
          first | refine ⟨⟨HR0U35.out, HR1U35.out⟩, ?_⟩ | refine ⟨fun _ => ⟨HR0U35.out, HR1U35.out⟩, ?_⟩
          refine AnyBut.one 3 rfl (by kernel_rfl) (by rfl) ?_
          go_simp
          refine (ofSay_t U35 s1 _ HOK1.out (HD1.out U35 HBU35.out)).mono ?_
          rintro e U36 ⟨VV, rfl, hv, hb⟩
          rw [HNN.out] at hv ⊢
          obtain ⟨sA, sl, sc, hva⟩ := hv.slice
          subst hva
          unfold msgV
          have HBU36 := Lib.hid (HBU35.out.trans (hb.mono HBU35.out.size))
          have HR0U36 := Lib.hid (Below.row hb HR0U35.out HR0U35.out.lt)
          have HR1U36 := Lib.hid (Below.row hb HR1U35.out HR1U35.out.lt)
          have HV1U36 := Lib.hid (HV1U35.out.below hb)
          have HN7U36 := Lib.hid (Below.row hb HN7U35.out HN7U35.out.lt)
          have HN8U36 := Lib.hid (Below.row hb HN8U35.out HN8U35.out.lt)
          have HV2U36 := Lib.hid hv
          clear hb hv
          clear HBU35 HR0U35 HR1U35 HV1U35 HN7U35 HN8U35
          first | refine ⟨⟨HR0U36.out, HR1U36.out⟩, ?_⟩ | refine ⟨fun _ => ⟨HR0U36.out, HR1U36.out⟩, ?_⟩
          refine AnyBut.one 6 rfl (by kernel_rfl) (by rfl) ?_
          have hz := HN7U36.out
          have q0 := hz.cell 0; have r0 := hz.frozen 0
          have q1 := hz.cell 1; have r1 := hz.frozen 1
          have q2 := hz.cell 2; have r2 := hz.frozen 2
          have q3 := hz.cell 3; have r3 := hz.frozen 3
          have q4 := hz.cell 4; have r4 := hz.frozen 4
          have q5 := hz.cell 5; have r5 := hz.frozen 5
          have q6 := hz.cell 6; have r6 := hz.frozen 6
          simp only [List.getElem?_toArray, List.getElem?_cons_zero, List.getElem?_cons_succ] at q0 q1 q2 q3 q4 q5 q6
          go_simp
          have hp := put7 hz (.int .u8 (m.kind : Int)) (.int .i64 m.train) (.int .i64 m.time) (.int .i64 m.dir) (.int .i64 m.ahead) (.bool m.whole) (.slice pA pl pc)
          clear hz q0 r0 q1 r1 q2 r2 q3 r3 q4 r4 q5 r5 q6 r6
          have ne0 : g0 ≠ n7 := Row.ne HR0U36.out HN7U36.out (by decide)
          have ne1 : g1 ≠ n7 := Row.ne HR1U36.out HN7U36.out (by decide)
          have k0 := Lib.hid (hp.2.2.row HR0U36.out (by simpa using ne0)); have k1 := Lib.hid (hp.2.2.row HR1U36.out (by simpa using ne1))
          have k7 := Lib.hid hp.1; have k8 := Lib.hid (hp.2.2.row HN8U36.out (by simpa using HNE.out.symm))
          have kv1 := Lib.hid (HV1U36.out.kept hp.2.2 (Other.one HN7U36.out (by decide))); have kv2 := Lib.hid (HV2U36.out.kept hp.2.2 (Other.one HN7U36.out (by decide)))
          have kb : Hid (Below w.heap.size w (((((((U36.setCell ⟨n7, 0, none⟩ (.int .u8 (m.kind : Int))).setCell ⟨n7, 1, none⟩ (.int .i64 m.train)).setCell ⟨n7, 2, none⟩ (.int .i64 m.time)).setCell ⟨n7, 3, none⟩ (.int .i64 m.dir)).setCell ⟨n7, 4, none⟩ (.int .i64 m.ahead)).setCell ⟨n7, 5, none⟩ (.bool m.whole)).setCell ⟨n7, 6, none⟩ (.slice pA pl pc))) := HBU36.out.trans (hp.2.1.mono HG7.out)
          clear hp ne0 ne1
          clear HBU36 HR0U36 HR1U36 HV1U36 HV2U36 HN7U36 HN8U36
          generalize (((((((U36.setCell ⟨n7, 0, none⟩ (.int .u8 (m.kind : Int))).setCell ⟨n7, 1, none⟩ (.int .i64 m.train)).setCell ⟨n7, 2, none⟩ (.int .i64 m.time)).setCell ⟨n7, 3, none⟩ (.int .i64 m.dir)).setCell ⟨n7, 4, none⟩ (.int .i64 m.ahead)).setCell ⟨n7, 5, none⟩ (.bool m.whole)).setCell ⟨n7, 6, none⟩ (.slice pA pl pc)) = U37 at *
          first | refine ⟨⟨k0.out, k1.out⟩, ?_⟩ | refine ⟨fun _ => ⟨k0.out, k1.out⟩, ?_⟩
          refine AnyBut.one 7 rfl (by kernel_rfl) (by rfl) ?_
          have hz := k8.out
          have q0 := hz.cell 0; have r0 := hz.frozen 0
          have q1 := hz.cell 1; have r1 := hz.frozen 1
          have q2 := hz.cell 2; have r2 := hz.frozen 2
          have q3 := hz.cell 3; have r3 := hz.frozen 3
          have q4 := hz.cell 4; have r4 := hz.frozen 4
          have q5 := hz.cell 5; have r5 := hz.frozen 5
          have q6 := hz.cell 6; have r6 := hz.frozen 6
          simp only [List.getElem?_toArray, List.getElem?_cons_zero, List.getElem?_cons_succ] at q0 q1 q2 q3 q4 q5 q6
          go_simp
          have hp := put7 hz (.int .u8 (n.kind : Int)) (.int .i64 n.train) (.int .i64 n.time) (.int .i64 n.dir) (.int .i64 n.ahead) (.bool n.whole) (.slice sA sl sc)
          clear hz q0 r0 q1 r1 q2 r2 q3 r3 q4 r4 q5 r5 q6 r6
          have ne0 : g0 ≠ n8 := Row.ne k0.out k8.out (by decide)
          have HX : Hid (Row (((((((U37.setCell ⟨n8, 0, none⟩ (.int .u8 (n.kind : Int))).setCell ⟨n8, 1, none⟩ (.int .i64 n.train)).setCell ⟨n8, 2, none⟩ (.int .i64 n.time)).setCell ⟨n8, 3, none⟩ (.int .i64 n.dir)).setCell ⟨n8, 4, none⟩ (.int .i64 n.ahead)).setCell ⟨n8, 5, none⟩ (.bool n.whole)).setCell ⟨n8, 6, none⟩ (.slice sA sl sc)) n7 29 #[.int .u8 (m.kind : Int), .int .i64 m.train, .int .i64 m.time, .int .i64 m.dir, .int .i64 m.ahead, .bool m.whole, .slice pA pl pc] ∧ Row (((((((U37.setCell ⟨n8, 0, none⟩ (.int .u8 (n.kind : Int))).setCell ⟨n8, 1, none⟩ (.int .i64 n.train)).setCell ⟨n8, 2, none⟩ (.int .i64 n.time)).setCell ⟨n8, 3, none⟩ (.int .i64 n.dir)).setCell ⟨n8, 4, none⟩ (.int .i64 n.ahead)).setCell ⟨n8, 5, none⟩ (.bool n.whole)).setCell ⟨n8, 6, none⟩ (.slice sA sl sc)) n8 29 #[.int .u8 (n.kind : Int), .int .i64 n.train, .int .i64 n.time, .int .i64 n.dir, .int .i64 n.ahead, .bool n.whole, .slice sA sl sc] ∧ Tl (((((((U37.setCell ⟨n8, 0, none⟩ (.int .u8 (n.kind : Int))).setCell ⟨n8, 1, none⟩ (.int .i64 n.train)).setCell ⟨n8, 2, none⟩ (.int .i64 n.time)).setCell ⟨n8, 3, none⟩ (.int .i64 n.dir)).setCell ⟨n8, 4, none⟩ (.int .i64 n.ahead)).setCell ⟨n8, 5, none⟩ (.bool n.whole)).setCell ⟨n8, 6, none⟩ (.slice sA sl sc)) 3 (.slice pA pl pc) (ivals m.trail) ∧ Tl (((((((U37.setCell ⟨n8, 0, none⟩ (.int .u8 (n.kind : Int))).setCell ⟨n8, 1, none⟩ (.int .i64 n.train)).setCell ⟨n8, 2, none⟩ (.int .i64 n.time)).setCell ⟨n8, 3, none⟩ (.int .i64 n.dir)).setCell ⟨n8, 4, none⟩ (.int .i64 n.ahead)).setCell ⟨n8, 5, none⟩ (.bool n.whole)).setCell ⟨n8, 6, none⟩ (.slice sA sl sc)) 3 (.slice sA sl sc) (ivals n.trail) ∧ Row (((((((U37.setCell ⟨n8, 0, none⟩ (.int .u8 (n.kind : Int))).setCell ⟨n8, 1, none⟩ (.int .i64 n.train)).setCell ⟨n8, 2, none⟩ (.int .i64 n.time)).setCell ⟨n8, 3, none⟩ (.int .i64 n.dir)).setCell ⟨n8, 4, none⟩ (.int .i64 n.ahead)).setCell ⟨n8, 5, none⟩ (.bool n.whole)).setCell ⟨n8, 6, none⟩ (.slice sA sl sc)) g0 26 #[.int .u8 (s0.kind : Int), .int .u8 (s0.train : Int), .int .u8 (s0.dir : Int), .int .u32 (s0.time : Int), .int .u16 (s0.ahead : Int), .bool s0.whole, .slice A0 l0 c0] ∧ Below w.heap.size w (((((((U37.setCell ⟨n8, 0, none⟩ (.int .u8 (n.kind : Int))).setCell ⟨n8, 1, none⟩ (.int .i64 n.train)).setCell ⟨n8, 2, none⟩ (.int .i64 n.time)).setCell ⟨n8, 3, none⟩ (.int .i64 n.dir)).setCell ⟨n8, 4, none⟩ (.int .i64 n.ahead)).setCell ⟨n8, 5, none⟩ (.bool n.whole)).setCell ⟨n8, 6, none⟩ (.slice sA sl sc))) :=
            ⟨hp.2.2.row k7.out (by simpa using HNE.out), hp.1, kv1.out.kept hp.2.2 (Other.one k8.out (by decide)), kv2.out.kept hp.2.2 (Other.one k8.out (by decide)), hp.2.2.row k0.out (by simpa using ne0), kb.out.trans (hp.2.1.mono HG8.out)⟩
          clear hp ne0 k0 k1 k7 k8 kv1 kv2 kb
          generalize (((((((U37.setCell ⟨n8, 0, none⟩ (.int .u8 (n.kind : Int))).setCell ⟨n8, 1, none⟩ (.int .i64 n.train)).setCell ⟨n8, 2, none⟩ (.int .i64 n.time)).setCell ⟨n8, 3, none⟩ (.int .i64 n.dir)).setCell ⟨n8, 4, none⟩ (.int .i64 n.ahead)).setCell ⟨n8, 5, none⟩ (.bool n.whole)).setCell ⟨n8, 6, none⟩ (.slice sA sl sc)) = U38 at *
          refine AnyBut.done (by kernel_rfl) ?_
          go_wp2_with fail
          go_meet
          case rel => exact ⟨n7, n8, pA, pl, pc, sA, sl, sc, rfl, rfl, HX⟩
      · go_simp
        have hb := (Below.refl U29.heap.size U29).alloc (Nat.le_refl _) (.cells #[.int .u8 0, .int .i64 0, .int .i64 0, .int .i64 0, .int .i64 0, .bool false, .slice none 0 0] 29)
        have HBU39 := Lib.hid (HBU29.out.trans (hb.mono HBU29.out.size))
        have HR0U39 := Lib.hid (Below.row hb HR0U29.out HR0U29.out.lt)
        have HR1U39 := Lib.hid (Below.row hb HR1U29.out HR1U29.out.lt)
        have HN7U39 := Lib.hid (Below.row hb HN7U29.out HN7U29.out.lt)
        have HN8U39 := Lib.hid (Row.new U29 29 #[.int .u8 0, .int .i64 0, .int .i64 0, .int .i64 0, .int .i64 0, .bool false, .slice none 0 0])
        have HG8 : Hid (w.heap.size ≤ U29.heap.size) := HBU29.out.size
        have HNE : Hid (n7 ≠ U29.heap.size) := by show _ ≠ _; have := HN7U29.out.lt; omega
        clear hb
        clear HBU29 HR0U29 HR1U29 HN7U29
        obtain ⟨n8, hn8⟩ : ∃ x, x = U29.heap.size := ⟨_, rfl⟩
        rw [← hn8] at HN8U39 HG8 HNE ⊢
        clear hn8
        generalize U29.alloc (.cells #[.int .u8 0, .int .i64 0, .int .i64 0, .int .i64 0, .int .i64 0, .bool false, .slice none 0 0] 29) = U39 at *
        first | refine ⟨⟨HR0U39.out, HR1U39.out⟩, ?_⟩ | refine ⟨fun _ => ⟨HR0U39.out, HR1U39.out⟩, ?_⟩
        refine AnyBut.one 1 rfl (by kernel_rfl) (by rfl) ?_
        go_simp
        refine (ofSay_t U39 s0 _ HOK0.out (HD0.out U39 HBU39.out)).mono ?_
        rintro e U40 ⟨VV, rfl, hv, hb⟩
        rw [HMM.out] at hv ⊢
        obtain ⟨pA, pl, pc, hva⟩ := hv.slice
        subst hva
        unfold msgV
        have HBU40 := Lib.hid (HBU39.out.trans (hb.mono HBU39.out.size))
        have HR0U40 := Lib.hid (Below.row hb HR0U39.out HR0U39.out.lt)
        have HR1U40 := Lib.hid (Below.row hb HR1U39.out HR1U39.out.lt)
        have HN7U40 := Lib.hid (Below.row hb HN7U39.out HN7U39.out.lt)
        have HN8U40 := Lib.hid (Below.row hb HN8U39.out HN8U39.out.lt)
        have HV1U40 := Lib.hid hv
        clear hb hv
        clear HBU39 HR0U39 HR1U39 HN7U39 HN8U39
        first | refine ⟨⟨HR0U40.out, HR1U40.out⟩, ?_⟩ | refine ⟨fun _ => ⟨HR0U40.out, HR1U40.out⟩, ?_⟩
        refine AnyBut.one 3 rfl (by kernel_rfl) (by rfl) ?_
        go_simp
        refine (ofSay_t U40 s1 _ HOK1.out (HD1.out U40 HBU40.out)).mono ?_
        rintro e U41 ⟨VV, rfl, hv, hb⟩
        rw [HNN.out] at hv ⊢
        obtain ⟨sA, sl, sc, hva⟩ := hv.slice
        subst hva
        unfold msgV
        have HBU41 := Lib.hid (HBU40.out.trans (hb.mono HBU40.out.size))
        have HR0U41 := Lib.hid (Below.row hb HR0U40.out HR0U40.out.lt)
        have HR1U41 := Lib.hid (Below.row hb HR1U40.out HR1U40.out.lt)
        have HV1U41 := Lib.hid (HV1U40.out.below hb)
        have HN7U41 := Lib.hid (Below.row hb HN7U40.out HN7U40.out.lt)
        have HN8U41 := Lib.hid (Below.row hb HN8U40.out HN8U40.out.lt)
        have HV2U41 := Lib.hid hv
        clear hb hv
        clear HBU40 HR0U40 HR1U40 HV1U40 HN7U40 HN8U40
        first | refine ⟨⟨HR0U41.out, HR1U41.out⟩, ?_⟩ | refine ⟨fun _ => ⟨HR0U41.out, HR1U41.out⟩, ?_⟩
        refine AnyBut.one 6 rfl (by kernel_rfl) (by rfl) ?_
        have hz := HN7U41.out
        have q0 := hz.cell 0; have r0 := hz.frozen 0
        have q1 := hz.cell 1; have r1 := hz.frozen 1
        have q2 := hz.cell 2; have r2 := hz.frozen 2
        have q3 := hz.cell 3; have r3 := hz.frozen 3
        have q4 := hz.cell 4; have r4 := hz.frozen 4
        have q5 := hz.cell 5; have r5 := hz.frozen 5
        have q6 := hz.cell 6; have r6 := hz.frozen 6
        simp only [List.getElem?_toArray, List.getElem?_cons_zero, List.getElem?_cons_succ] at q0 q1 q2 q3 q4 q5 q6
        go_simp
        have hp := put7 hz (.int .u8 (m.kind : Int)) (.int .i64 m.train) (.int .i64 m.time) (.int .i64 m.dir) (.int .i64 m.ahead) (.bool m.whole) (.slice pA pl pc)
        clear hz q0 r0 q1 r1 q2 r2 q3 r3 q4 r4 q5 r5 q6 r6
        have ne0 : g0 ≠ n7 := Row.ne HR0U41.out HN7U41.out (by decide)
        have ne1 : g1 ≠ n7 := Row.ne HR1U41.out HN7U41.out (by decide)
        have k0 := Lib.hid (hp.2.2.row HR0U41.out (by simpa using ne0)); have k1 := Lib.hid (hp.2.2.row HR1U41.out (by simpa using ne1))
        have k7 := Lib.hid hp.1; have k8 := Lib.hid (hp.2.2.row HN8U41.out (by simpa using HNE.out.symm))
        have kv1 := Lib.hid (HV1U41.out.kept hp.2.2 (Other.one HN7U41.out (by decide))); have kv2 := Lib.hid (HV2U41.out.kept hp.2.2 (Other.one HN7U41.out (by decide)))
        have kb : Hid (Below w.heap.size w (((((((U41.setCell ⟨n7, 0, none⟩ (.int .u8 (m.kind : Int))).setCell ⟨n7, 1, none⟩ (.int .i64 m.train)).setCell ⟨n7, 2, none⟩ (.int .i64 m.time)).setCell ⟨n7, 3, none⟩ (.int .i64 m.dir)).setCell ⟨n7, 4, none⟩ (.int .i64 m.ahead)).setCell ⟨n7, 5, none⟩ (.bool m.whole)).setCell ⟨n7, 6, none⟩ (.slice pA pl pc))) := HBU41.out.trans (hp.2.1.mono HG7.out)
        clear hp ne0 ne1
        clear HBU41 HR0U41 HR1U41 HV1U41 HV2U41 HN7U41 HN8U41
        generalize (((((((U41.setCell ⟨n7, 0, none⟩ (.int .u8 (m.kind : Int))).setCell ⟨n7, 1, none⟩ (.int .i64 m.train)).setCell ⟨n7, 2, none⟩ (.int .i64 m.time)).setCell ⟨n7, 3, none⟩ (.int .i64 m.dir)).setCell ⟨n7, 4, none⟩ (.int .i64 m.ahead)).setCell ⟨n7, 5, none⟩ (.bool m.whole)).setCell ⟨n7, 6, none⟩ (.slice pA pl pc)) = U42 at *
        first | refine ⟨⟨k0.out, k1.out⟩, ?_⟩ | refine ⟨fun _ => ⟨k0.out, k1.out⟩, ?_⟩
        refine AnyBut.one 7 rfl (by kernel_rfl) (by rfl) ?_
        have hz := k8.out
        have q0 := hz.cell 0; have r0 := hz.frozen 0
        have q1 := hz.cell 1; have r1 := hz.frozen 1
        have q2 := hz.cell 2; have r2 := hz.frozen 2
        have q3 := hz.cell 3; have r3 := hz.frozen 3
        have q4 := hz.cell 4; have r4 := hz.frozen 4
        have q5 := hz.cell 5; have r5 := hz.frozen 5
        have q6 := hz.cell 6; have r6 := hz.frozen 6
        simp only [List.getElem?_toArray, List.getElem?_cons_zero, List.getElem?_cons_succ] at q0 q1 q2 q3 q4 q5 q6
        go_simp
        have hp := put7 hz (.int .u8 (n.kind : Int)) (.int .i64 n.train) (.int .i64 n.time) (.int .i64 n.dir) (.int .i64 n.ahead) (.bool n.whole) (.slice sA sl sc)
        clear hz q0 r0 q1 r1 q2 r2 q3 r3 q4 r4 q5 r5 q6 r6
        have ne0 : g0 ≠ n8 := Row.ne k0.out k8.out (by decide)
        have HX : Hid (Row (((((((U42.setCell ⟨n8, 0, none⟩ (.int .u8 (n.kind : Int))).setCell ⟨n8, 1, none⟩ (.int .i64 n.train)).setCell ⟨n8, 2, none⟩ (.int .i64 n.time)).setCell ⟨n8, 3, none⟩ (.int .i64 n.dir)).setCell ⟨n8, 4, none⟩ (.int .i64 n.ahead)).setCell ⟨n8, 5, none⟩ (.bool n.whole)).setCell ⟨n8, 6, none⟩ (.slice sA sl sc)) n7 29 #[.int .u8 (m.kind : Int), .int .i64 m.train, .int .i64 m.time, .int .i64 m.dir, .int .i64 m.ahead, .bool m.whole, .slice pA pl pc] ∧ Row (((((((U42.setCell ⟨n8, 0, none⟩ (.int .u8 (n.kind : Int))).setCell ⟨n8, 1, none⟩ (.int .i64 n.train)).setCell ⟨n8, 2, none⟩ (.int .i64 n.time)).setCell ⟨n8, 3, none⟩ (.int .i64 n.dir)).setCell ⟨n8, 4, none⟩ (.int .i64 n.ahead)).setCell ⟨n8, 5, none⟩ (.bool n.whole)).setCell ⟨n8, 6, none⟩ (.slice sA sl sc)) n8 29 #[.int .u8 (n.kind : Int), .int .i64 n.train, .int .i64 n.time, .int .i64 n.dir, .int .i64 n.ahead, .bool n.whole, .slice sA sl sc] ∧ Tl (((((((U42.setCell ⟨n8, 0, none⟩ (.int .u8 (n.kind : Int))).setCell ⟨n8, 1, none⟩ (.int .i64 n.train)).setCell ⟨n8, 2, none⟩ (.int .i64 n.time)).setCell ⟨n8, 3, none⟩ (.int .i64 n.dir)).setCell ⟨n8, 4, none⟩ (.int .i64 n.ahead)).setCell ⟨n8, 5, none⟩ (.bool n.whole)).setCell ⟨n8, 6, none⟩ (.slice sA sl sc)) 3 (.slice pA pl pc) (ivals m.trail) ∧ Tl (((((((U42.setCell ⟨n8, 0, none⟩ (.int .u8 (n.kind : Int))).setCell ⟨n8, 1, none⟩ (.int .i64 n.train)).setCell ⟨n8, 2, none⟩ (.int .i64 n.time)).setCell ⟨n8, 3, none⟩ (.int .i64 n.dir)).setCell ⟨n8, 4, none⟩ (.int .i64 n.ahead)).setCell ⟨n8, 5, none⟩ (.bool n.whole)).setCell ⟨n8, 6, none⟩ (.slice sA sl sc)) 3 (.slice sA sl sc) (ivals n.trail) ∧ Row (((((((U42.setCell ⟨n8, 0, none⟩ (.int .u8 (n.kind : Int))).setCell ⟨n8, 1, none⟩ (.int .i64 n.train)).setCell ⟨n8, 2, none⟩ (.int .i64 n.time)).setCell ⟨n8, 3, none⟩ (.int .i64 n.dir)).setCell ⟨n8, 4, none⟩ (.int .i64 n.ahead)).setCell ⟨n8, 5, none⟩ (.bool n.whole)).setCell ⟨n8, 6, none⟩ (.slice sA sl sc)) g0 26 #[.int .u8 (s0.kind : Int), .int .u8 (s0.train : Int), .int .u8 (s0.dir : Int), .int .u32 (s0.time : Int), .int .u16 (s0.ahead : Int), .bool s0.whole, .slice A0 l0 c0] ∧ Below w.heap.size w (((((((U42.setCell ⟨n8, 0, none⟩ (.int .u8 (n.kind : Int))).setCell ⟨n8, 1, none⟩ (.int .i64 n.train)).setCell ⟨n8, 2, none⟩ (.int .i64 n.time)).setCell ⟨n8, 3, none⟩ (.int .i64 n.dir)).setCell ⟨n8, 4, none⟩ (.int .i64 n.ahead)).setCell ⟨n8, 5, none⟩ (.bool n.whole)).setCell ⟨n8, 6, none⟩ (.slice sA sl sc))) :=
          ⟨hp.2.2.row k7.out (by simpa using HNE.out), hp.1, kv1.out.kept hp.2.2 (Other.one k8.out (by decide)), kv2.out.kept hp.2.2 (Other.one k8.out (by decide)), hp.2.2.row k0.out (by simpa using ne0), kb.out.trans (hp.2.1.mono HG8.out)⟩
        clear hp ne0 k0 k1 k7 k8 kv1 kv2 kb
        generalize (((((((U42.setCell ⟨n8, 0, none⟩ (.int .u8 (n.kind : Int))).setCell ⟨n8, 1, none⟩ (.int .i64 n.train)).setCell ⟨n8, 2, none⟩ (.int .i64 n.time)).setCell ⟨n8, 3, none⟩ (.int .i64 n.dir)).setCell ⟨n8, 4, none⟩ (.int .i64 n.ahead)).setCell ⟨n8, 5, none⟩ (.bool n.whole)).setCell ⟨n8, 6, none⟩ (.slice sA sl sc)) = U43 at *
        refine AnyBut.done (by kernel_rfl) ?_
        go_wp2_with fail
        go_meet
        case rel => exact ⟨n7, n8, pA, pl, pc, sA, sl, sc, rfl, rfl, HX⟩
    · go_simp
      have hb := (Below.refl U0.heap.size U0).alloc (Nat.le_refl _) (.cells #[.int .u8 0, .int .i64 0, .int .i64 0, .int .i64 0, .int .i64 0, .bool false, .slice none 0 0] 29)
      have HBU44 := Lib.hid (HBU0.out.trans (hb.mono HBU0.out.size))
      have HR0U44 := Lib.hid (Below.row hb HR0U0.out HR0U0.out.lt)
      have HR1U44 := Lib.hid (Below.row hb HR1U0.out HR1U0.out.lt)
      have HN8U44 := Lib.hid (Row.new U0 29 #[.int .u8 0, .int .i64 0, .int .i64 0, .int .i64 0, .int .i64 0, .bool false, .slice none 0 0])
      have HG8 : Hid (w.heap.size ≤ U0.heap.size) := HBU0.out.size
      clear hb
      clear HBU0 HR0U0 HR1U0
      obtain ⟨n8, hn8⟩ : ∃ x, x = U0.heap.size := ⟨_, rfl⟩
      rw [← hn8] at HN8U44 HG8 ⊢
      clear hn8
      generalize U0.alloc (.cells #[.int .u8 0, .int .i64 0, .int .i64 0, .int .i64 0, .int .i64 0, .bool false, .slice none 0 0] 29) = U44 at *
      first | refine ⟨⟨HR0U44.out, HR1U44.out⟩, ?_⟩ | refine ⟨fun _ => ⟨HR0U44.out, HR1U44.out⟩, ?_⟩
      refine any_two 1 4 rfl rfl (by kernel_rfl) (by rfl) (by rfl) ?_ ?_
      · go_simp
        refine (ofSay_t U44 s0 _ HOK0.out (HD0.out U44 HBU44.out)).mono ?_
        rintro e U45 ⟨VV, rfl, hv, hb⟩
        rw [HMM.out] at hv ⊢
        obtain ⟨pA, pl, pc, hva⟩ := hv.slice
        subst hva
        unfold msgV
        have HBU45 := Lib.hid (HBU44.out.trans (hb.mono HBU44.out.size))
        have HR0U45 := Lib.hid (Below.row hb HR0U44.out HR0U44.out.lt)
        have HR1U45 := Lib.hid (Below.row hb HR1U44.out HR1U44.out.lt)
        have HN8U45 := Lib.hid (Below.row hb HN8U44.out HN8U44.out.lt)
        have HV1U45 := Lib.hid hv
        clear hb hv
        clear HBU44 HR0U44 HR1U44 HN8U44
        first | refine ⟨⟨HR0U45.out, HR1U45.out⟩, ?_⟩ | refine ⟨fun _ => ⟨HR0U45.out, HR1U45.out⟩, ?_⟩
        refine any_two 3 4 rfl rfl (by kernel_rfl) (by rfl) (by rfl) ?_ ?_
        · go_simp
          refine (ofSay_t U45 s1 _ HOK1.out (HD1.out U45 HBU45.out)).mono ?_
          rintro e U46 ⟨VV, rfl, hv, hb⟩
          rw [HNN.out] at hv ⊢
          obtain ⟨sA, sl, sc, hva⟩ := hv.slice
          subst hva
          unfold msgV
          have HBU46 := Lib.hid (HBU45.out.trans (hb.mono HBU45.out.size))
          have HR0U46 := Lib.hid (Below.row hb HR0U45.out HR0U45.out.lt)
          have HR1U46 := Lib.hid (Below.row hb HR1U45.out HR1U45.out.lt)
          have HV1U46 := Lib.hid (HV1U45.out.below hb)
          have HN8U46 := Lib.hid (Below.row hb HN8U45.out HN8U45.out.lt)
          have HV2U46 := Lib.hid hv
          clear hb hv
          clear HBU45 HR0U45 HR1U45 HV1U45 HN8U45
          first | refine ⟨⟨HR0U46.out, HR1U46.out⟩, ?_⟩ | refine ⟨fun _ => ⟨HR0U46.out, HR1U46.out⟩, ?_⟩
          refine AnyBut.one 4 rfl (by kernel_rfl) (by rfl) ?_
          go_simp
          have hb := (Below.refl U46.heap.size U46).alloc (Nat.le_refl _) (.cells #[.int .u8 0, .int .i64 0, .int .i64 0, .int .i64 0, .int .i64 0, .bool false, .slice none 0 0] 29)
          have HBU47 := Lib.hid (HBU46.out.trans (hb.mono HBU46.out.size))
          have HR0U47 := Lib.hid (Below.row hb HR0U46.out HR0U46.out.lt)
          have HR1U47 := Lib.hid (Below.row hb HR1U46.out HR1U46.out.lt)
          have HV1U47 := Lib.hid (HV1U46.out.below hb)
          have HV2U47 := Lib.hid (HV2U46.out.below hb)
          have HN8U47 := Lib.hid (Below.row hb HN8U46.out HN8U46.out.lt)
          have HN7U47 := Lib.hid (Row.new U46 29 #[.int .u8 0, .int .i64 0, .int .i64 0, .int .i64 0, .int .i64 0, .bool false, .slice none 0 0])
          have HG7 : Hid (w.heap.size ≤ U46.heap.size) := HBU46.out.size
          have HNE : Hid (U46.heap.size ≠ n8) := by show _ ≠ _; have := HN8U46.out.lt; omega
          clear hb
          clear HBU46 HR0U46 HR1U46 HV1U46 HV2U46 HN8U46
          obtain ⟨n7, hn7⟩ : ∃ x, x = U46.heap.size := ⟨_, rfl⟩
          rw [← hn7] at HN7U47 HG7 HNE ⊢
          clear hn7
          generalize U46.alloc (.cells #[.int .u8 0, .int .i64 0, .int .i64 0, .int .i64 0, .int .i64 0, .bool false, .slice none 0 0] 29) = U47 at *
          first | refine ⟨⟨HR0U47.out, HR1U47.out⟩, ?_⟩ | refine ⟨fun _ => ⟨HR0U47.out, HR1U47.out⟩, ?_⟩
          refine AnyBut.one 6 rfl (by kernel_rfl) (by rfl) ?_
          have hz := HN7U47.out
          have q0 := hz.cell 0; have r0 := hz.frozen 0
          have q1 := hz.cell 1; have r1 := hz.frozen 1
          have q2 := hz.cell 2; have r2 := hz.frozen 2
          have q3 := hz.cell 3; have r3 := hz.frozen 3
          have q4 := hz.cell 4; have r4 := hz.frozen 4
          have q5 := hz.cell 5; have r5 := hz.frozen 5
          have q6 := hz.cell 6; have r6 := hz.frozen 6
          simp only [List.getElem?_toArray, List.getElem?_cons_zero, List.getElem?_cons_succ] at q0 q1 q2 q3 q4 q5 q6
          go_simp
          have hp := put7 hz (.int .u8 (m.kind : Int)) (.int .i64 m.train) (.int .i64 m.time) (.int .i64 m.dir) (.int .i64 m.ahead) (.bool m.whole) (.slice pA pl pc)
          clear hz q0 r0 q1 r1 q2 r2 q3 r3 q4 r4 q5 r5 q6 r6
          have ne0 : g0 ≠ n7 := Row.ne HR0U47.out HN7U47.out (by decide)
          have ne1 : g1 ≠ n7 := Row.ne HR1U47.out HN7U47.out (by decide)
          have k0 := Lib.hid (hp.2.2.row HR0U47.out (by simpa using ne0)); have k1 := Lib.hid (hp.2.2.row HR1U47.out (by simpa using ne1))
          have k7 := Lib.hid hp.1; have k8 := Lib.hid (hp.2.2.row HN8U47.out (by simpa using HNE.out.symm))
          have kv1 := Lib.hid (HV1U47.out.kept hp.2.2 (Other.one HN7U47.out (by decide))); have kv2 := Lib.hid (HV2U47.out.kept hp.2.2 (Other.one HN7U47.out (by decide)))
          have kb : Hid (Below w.heap.size w (((((((U47.setCell ⟨n7, 0, none⟩ (.int .u8 (m.kind : Int))).setCell ⟨n7, 1, none⟩ (.int .i64 m.train)).setCell ⟨n7, 2, none⟩ (.int .i64 m.time)).setCell ⟨n7, 3, none⟩ (.int .i64 m.dir)).setCell ⟨n7, 4, none⟩ (.int .i64 m.ahead)).setCell ⟨n7, 5, none⟩ (.bool m.whole)).setCell ⟨n7, 6, none⟩ (.slice pA pl pc))) := HBU47.out.trans (hp.2.1.mono HG7.out)
          clear hp ne0 ne1
          clear HBU47 HR0U47 HR1U47 HV1U47 HV2U47 HN7U47 HN8U47
          generalize (((((((U47.setCell ⟨n7, 0, none⟩ (.int .u8 (m.kind : Int))).setCell ⟨n7, 1, none⟩ (.int .i64 m.train)).setCell ⟨n7, 2, none⟩ (.int .i64 m.time)).setCell ⟨n7, 3, none⟩ (.int .i64 m.dir)).setCell ⟨n7, 4, none⟩ (.int .i64 m.ahead)).setCell ⟨n7, 5, none⟩ (.bool m.whole)).setCell ⟨n7, 6, none⟩ (.slice pA pl pc)) = U48 at *
          first | refine ⟨⟨k0.out, k1.out⟩, ?_⟩ | refine ⟨fun _ => ⟨k0.out, k1.out⟩, ?_⟩
          refine AnyBut.one 7 rfl (by kernel_rfl) (by rfl) ?_
          have hz := k8.out
          have q0 := hz.cell 0; have r0 := hz.frozen 0
          have q1 := hz.cell 1; have r1 := hz.frozen 1
          have q2 := hz.cell 2; have r2 := hz.frozen 2
          have q3 := hz.cell 3; have r3 := hz.frozen 3
          have q4 := hz.cell 4; have r4 := hz.frozen 4
          have q5 := hz.cell 5; have r5 := hz.frozen 5
          have q6 := hz.cell 6; have r6 := hz.frozen 6
          simp only [List.getElem?_toArray, List.getElem?_cons_zero, List.getElem?_cons_succ] at q0 q1 q2 q3 q4 q5 q6
          go_simp
          have hp := put7 hz (.int .u8 (n.kind : Int)) (.int .i64 n.train) (.int .i64 n.time) (.int .i64 n.dir) (.int .i64 n.ahead) (.bool n.whole) (.slice sA sl sc)
          clear hz q0 r0 q1 r1 q2 r2 q3 r3 q4 r4 q5 r5 q6 r6
          have ne0 : g0 ≠ n8 := Row.ne k0.out k8.out (by decide)
          have HX : Hid (Row (((((((U48.setCell ⟨n8, 0, none⟩ (.int .u8 (n.kind : Int))).setCell ⟨n8, 1, none⟩ (.int .i64 n.train)).setCell ⟨n8, 2, none⟩ (.int .i64 n.time)).setCell ⟨n8, 3, none⟩ (.int .i64 n.dir)).setCell ⟨n8, 4, none⟩ (.int .i64 n.ahead)).setCell ⟨n8, 5, none⟩ (.bool n.whole)).setCell ⟨n8, 6, none⟩ (.slice sA sl sc)) n7 29 #[.int .u8 (m.kind : Int), .int .i64 m.train, .int .i64 m.time, .int .i64 m.dir, .int .i64 m.ahead, .bool m.whole, .slice pA pl pc] ∧ Row (((((((U48.setCell ⟨n8, 0, none⟩ (.int .u8 (n.kind : Int))).setCell ⟨n8, 1, none⟩ (.int .i64 n.train)).setCell ⟨n8, 2, none⟩ (.int .i64 n.time)).setCell ⟨n8, 3, none⟩ (.int .i64 n.dir)).setCell ⟨n8, 4, none⟩ (.int .i64 n.ahead)).setCell ⟨n8, 5, none⟩ (.bool n.whole)).setCell ⟨n8, 6, none⟩ (.slice sA sl sc)) n8 29 #[.int .u8 (n.kind : Int), .int .i64 n.train, .int .i64 n.time, .int .i64 n.dir, .int .i64 n.ahead, .bool n.whole, .slice sA sl sc] ∧ Tl (((((((U48.setCell ⟨n8, 0, none⟩ (.int .u8 (n.kind : Int))).setCell ⟨n8, 1, none⟩ (.int .i64 n.train)).setCell ⟨n8, 2, none⟩ (.int .i64 n.time)).setCell ⟨n8, 3, none⟩ (.int .i64 n.dir)).setCell ⟨n8, 4, none⟩ (.int .i64 n.ahead)).setCell ⟨n8, 5, none⟩ (.bool n.whole)).setCell ⟨n8, 6, none⟩ (.slice sA sl sc)) 3 (.slice pA pl pc) (ivals m.trail) ∧ Tl (((((((U48.setCell ⟨n8, 0, none⟩ (.int .u8 (n.kind : Int))).setCell ⟨n8, 1, none⟩ (.int .i64 n.train)).setCell ⟨n8, 2, none⟩ (.int .i64 n.time)).setCell ⟨n8, 3, none⟩ (.int .i64 n.dir)).setCell ⟨n8, 4, none⟩ (.int .i64 n.ahead)).setCell ⟨n8, 5, none⟩ (.bool n.whole)).setCell ⟨n8, 6, none⟩ (.slice sA sl sc)) 3 (.slice sA sl sc) (ivals n.trail) ∧ Row (((((((U48.setCell ⟨n8, 0, none⟩ (.int .u8 (n.kind : Int))).setCell ⟨n8, 1, none⟩ (.int .i64 n.train)).setCell ⟨n8, 2, none⟩ (.int .i64 n.time)).setCell ⟨n8, 3, none⟩ (.int .i64 n.dir)).setCell ⟨n8, 4, none⟩ (.int .i64 n.ahead)).setCell ⟨n8, 5, none⟩ (.bool n.whole)).setCell ⟨n8, 6, none⟩ (.slice sA sl sc)) g0 26 #[.int .u8 (s0.kind : Int), .int .u8 (s0.train : Int), .int .u8 (s0.dir : Int), .int .u32 (s0.time : Int), .int .u16 (s0.ahead : Int), .bool s0.whole, .slice A0 l0 c0] ∧ Below w.heap.size w (((((((U48.setCell ⟨n8, 0, none⟩ (.int .u8 (n.kind : Int))).setCell ⟨n8, 1, none⟩ (.int .i64 n.train)).setCell ⟨n8, 2, none⟩ (.int .i64 n.time)).setCell ⟨n8, 3, none⟩ (.int .i64 n.dir)).setCell ⟨n8, 4, none⟩ (.int .i64 n.ahead)).setCell ⟨n8, 5, none⟩ (.bool n.whole)).setCell ⟨n8, 6, none⟩ (.slice sA sl sc))) :=
            ⟨hp.2.2.row k7.out (by simpa using HNE.out), hp.1, kv1.out.kept hp.2.2 (Other.one k8.out (by decide)), kv2.out.kept hp.2.2 (Other.one k8.out (by decide)), hp.2.2.row k0.out (by simpa using ne0), kb.out.trans (hp.2.1.mono HG8.out)⟩
          clear hp ne0 k0 k1 k7 k8 kv1 kv2 kb
          generalize (((((((U48.setCell ⟨n8, 0, none⟩ (.int .u8 (n.kind : Int))).setCell ⟨n8, 1, none⟩ (.int .i64 n.train)).setCell ⟨n8, 2, none⟩ (.int .i64 n.time)).setCell ⟨n8, 3, none⟩ (.int .i64 n.dir)).setCell ⟨n8, 4, none⟩ (.int .i64 n.ahead)).setCell ⟨n8, 5, none⟩ (.bool n.whole)).setCell ⟨n8, 6, none⟩ (.slice sA sl sc)) = U49 at *
          refine AnyBut.done (by kernel_rfl) ?_
          go_wp2_with fail
          go_meet
          case rel => exact ⟨n7, n8, pA, pl, pc, sA, sl, sc, rfl, rfl, HX⟩
        · go_simp
          have hb := (Below.refl U45.heap.size U45).alloc (Nat.le_refl _) (.cells #[.int .u8 0, .int .i64 0, .int .i64 0, .int .i64 0, .int .i64 0, .bool false, .slice none 0 0] 29)
          have HBU50 := Lib.hid (HBU45.out.trans (hb.mono HBU45.out.size))
          have HR0U50 := Lib.hid (Below.row hb HR0U45.out HR0U45.out.lt)
          have HR1U50 := Lib.hid (Below.row hb HR1U45.out HR1U45.out.lt)
          have HV1U50 := Lib.hid (HV1U45.out.below hb)
          have HN8U50 := Lib.hid (Below.row hb HN8U45.out HN8U45.out.lt)
          have HN7U50 := Lib.hid (Row.new U45 29 #[.int .u8 0, .int .i64 0, .int .i64 0, .int .i64 0, .int .i64 0, .bool false, .slice none 0 0])
          have HG7 : Hid (w.heap.size ≤ U45.heap.size) := HBU45.out.size
          have HNE : Hid (U45.heap.size ≠ n8) := by show _ ≠ _; have := HN8U45.out.lt; omega
          clear hb
          clear HBU45 HR0U45 HR1U45 HV1U45 HN8U45
          obtain ⟨n7, hn7⟩ : ∃ x, x = U45.heap.size := ⟨_, rfl⟩
          rw [← hn7] at HN7U50 HG7 HNE ⊢
          clear hn7
          generalize U45.alloc (.cells #[.int .u8 0, .int .i64 0, .int .i64 0, .int .i64 0, .int .i64 0, .bool false, .slice none 0 0] 29) = U50 at *
          first | refine ⟨⟨HR0U50.out, HR1U50.out⟩, ?_⟩ | refine ⟨fun _ => ⟨HR0U50.out, HR1U50.out⟩, ?_⟩
          refine AnyBut.one 3 rfl (by kernel_rfl) (by rfl) ?_
          go_simp
          refine (ofSay_t U50 s1 _ HOK1.out (HD1.out U50 HBU50.out)).mono ?_
          rintro e U51 ⟨VV, rfl, hv, hb⟩
          rw [HNN.out] at hv ⊢
          obtain ⟨sA, sl, sc, hva⟩ := hv.slice
          subst hva
          unfold msgV
          have HBU51 := Lib.hid (HBU50.out.trans (hb.mono HBU50.out.size))
          have HR0U51 := Lib.hid (Below.row hb HR0U50.out HR0U50.out.lt)
          have HR1U51 := Lib.hid (Below.row hb HR1U50.out HR1U50.out.lt)
          have HV1U51 := Lib.hid (HV1U50.out.below hb)
          have HN7U51 := Lib.hid (Below.row hb HN7U50.out HN7U50.out.lt)
          have HN8U51 := Lib.hid (Below.row hb HN8U50.out HN8U50.out.lt)
          have HV2U51 := Lib.hid hv
          clear hb hv
          clear HBU50 HR0U50 HR1U50 HV1U50 HN7U50 HN8U50
          first | refine ⟨⟨HR0U51.out, HR1U51.out⟩, ?_⟩ | refine ⟨fun _ => ⟨HR0U51.out, HR1U51.out⟩, ?_⟩
          refine AnyBut.one 6 rfl (by kernel_rfl) (by rfl) ?_
          have hz := HN7U51.out
          have q0 := hz.cell 0; have r0 := hz.frozen 0
          have q1 := hz.cell 1; have r1 := hz.frozen 1
          have q2 := hz.cell 2; have r2 := hz.frozen 2
          have q3 := hz.cell 3; have r3 := hz.frozen 3
          have q4 := hz.cell 4; have r4 := hz.frozen 4
          have q5 := hz.cell 5; have r5 := hz.frozen 5
          have q6 := hz.cell 6; have r6 := hz.frozen 6
          simp only [List.getElem?_toArray, List.getElem?_cons_zero, List.getElem?_cons_succ] at q0 q1 q2 q3 q4 q5 q6
          go_simp
          have hp := put7 hz (.int .u8 (m.kind : Int)) (.int .i64 m.train) (.int .i64 m.time) (.int .i64 m.dir) (.int .i64 m.ahead) (.bool m.whole) (.slice pA pl pc)
          clear hz q0 r0 q1 r1 q2 r2 q3 r3 q4 r4 q5 r5 q6 r6
          have ne0 : g0 ≠ n7 := Row.ne HR0U51.out HN7U51.out (by decide)
          have ne1 : g1 ≠ n7 := Row.ne HR1U51.out HN7U51.out (by decide)
          have k0 := Lib.hid (hp.2.2.row HR0U51.out (by simpa using ne0)); have k1 := Lib.hid (hp.2.2.row HR1U51.out (by simpa using ne1))
          have k7 := Lib.hid hp.1; have k8 := Lib.hid (hp.2.2.row HN8U51.out (by simpa using HNE.out.symm))
          have kv1 := Lib.hid (HV1U51.out.kept hp.2.2 (Other.one HN7U51.out (by decide))); have kv2 := Lib.hid (HV2U51.out.kept hp.2.2 (Other.one HN7U51.out (by decide)))
          have kb : Hid (Below w.heap.size w (((((((U51.setCell ⟨n7, 0, none⟩ (.int .u8 (m.kind : Int))).setCell ⟨n7, 1, none⟩ (.int .i64 m.train)).setCell ⟨n7, 2, none⟩ (.int .i64 m.time)).setCell ⟨n7, 3, none⟩ (.int .i64 m.dir)).setCell ⟨n7, 4, none⟩ (.int .i64 m.ahead)).setCell ⟨n7, 5, none⟩ (.bool m.whole)).setCell ⟨n7, 6, none⟩ (.slice pA pl pc))) := HBU51.out.trans (hp.2.1.mono HG7.out)
          clear hp ne0 ne1
          clear HBU51 HR0U51 HR1U51 HV1U51 HV2U51 HN7U51 HN8U51
          generalize (((((((U51.setCell ⟨n7, 0, none⟩ (.int .u8 (m.kind : Int))).setCell ⟨n7, 1, none⟩ (.int .i64 m.train)).setCell ⟨n7, 2, none⟩ (.int .i64 m.time)).setCell ⟨n7, 3, none⟩ (.int .i64 m.dir)).setCell ⟨n7, 4, none⟩ (.int .i64 m.ahead)).setCell ⟨n7, 5, none⟩ (.bool m.whole)).setCell ⟨n7, 6, none⟩ (.slice pA pl pc)) = U52 at *
          first | refine ⟨⟨k0.out, k1.out⟩, ?_⟩ | refine ⟨fun _ => ⟨k0.out, k1.out⟩, ?_⟩
          refine AnyBut.one 7 rfl (by kernel_rfl) (by rfl) ?_
          have hz := k8.out
          have q0 := hz.cell 0; have r0 := hz.frozen 0
          have q1 := hz.cell 1; have r1 := hz.frozen 1
          have q2 := hz.cell 2; have r2 := hz.frozen 2
          have q3 := hz.cell 3; have r3 := hz.frozen 3
          have q4 := hz.cell 4; have r4 := hz.frozen 4
          have q5 := hz.cell 5; have r5 := hz.frozen 5
          have q6 := hz.cell 6; have r6 := hz.frozen 6
          simp only [List.getElem?_toArray, List.getElem?_cons_zero, List.getElem?_cons_succ] at q0 q1 q2 q3 q4 q5 q6
          go_simp
          have hp := put7 hz (.int .u8 (n.kind : Int)) (.int .i64 n.train) (.int .i64 n.time) (.int .i64 n.dir) (.int .i64 n.ahead) (.bool n.whole) (.slice sA sl sc)
          clear hz q0 r0 q1 r1 q2 r2 q3 r3 q4 r4 q5 r5 q6 r6
          have ne0 : g0 ≠ n8 := Row.ne k0.out k8.out (by decide)
          have HX : Hid (Row (((((((U52.setCell ⟨n8, 0, none⟩ (.int .u8 (n.kind : Int))).setCell ⟨n8, 1, none⟩ (.int .i64 n.train)).setCell ⟨n8, 2, none⟩ (.int .i64 n.time)).setCell ⟨n8, 3, none⟩ (.int .i64 n.dir)).setCell ⟨n8, 4, none⟩ (.int .i64 n.ahead)).setCell ⟨n8, 5, none⟩ (.bool n.whole)).setCell ⟨n8, 6, none⟩ (.slice sA sl sc)) n7 29 #[.int .u8 (m.kind : Int), .int .i64 m.train, .int .i64 m.time, .int .i64 m.dir, .int .i64 m.ahead, .bool m.whole, .slice pA pl pc] ∧ Row (((((((U52.setCell ⟨n8, 0, none⟩ (.int .u8 (n.kind : Int))).setCell ⟨n8, 1, none⟩ (.int .i64 n.train)).setCell ⟨n8, 2, none⟩ (.int .i64 n.time)).setCell ⟨n8, 3, none⟩ (.int .i64 n.dir)).setCell ⟨n8, 4, none⟩ (.int .i64 n.ahead)).setCell ⟨n8, 5, none⟩ (.bool n.whole)).setCell ⟨n8, 6, none⟩ (.slice sA sl sc)) n8 29 #[.int .u8 (n.kind : Int), .int .i64 n.train, .int .i64 n.time, .int .i64 n.dir, .int .i64 n.ahead, .bool n.whole, .slice sA sl sc] ∧ Tl (((((((U52.setCell ⟨n8, 0, none⟩ (.int .u8 (n.kind : Int))).setCell ⟨n8, 1, none⟩ (.int .i64 n.train)).setCell ⟨n8, 2, none⟩ (.int .i64 n.time)).setCell ⟨n8, 3, none⟩ (.int .i64 n.dir)).setCell ⟨n8, 4, none⟩ (.int .i64 n.ahead)).setCell ⟨n8, 5, none⟩ (.bool n.whole)).setCell ⟨n8, 6, none⟩ (.slice sA sl sc)) 3 (.slice pA pl pc) (ivals m.trail) ∧ Tl (((((((U52.setCell ⟨n8, 0, none⟩ (.int .u8 (n.kind : Int))).setCell ⟨n8, 1, none⟩ (.int .i64 n.train)).setCell ⟨n8, 2, none⟩ (.int .i64 n.time)).setCell ⟨n8, 3, none⟩ (.int .i64 n.dir)).setCell ⟨n8, 4, none⟩ (.int .i64 n.ahead)).setCell ⟨n8, 5, none⟩ (.bool n.whole)).setCell ⟨n8, 6, none⟩ (.slice sA sl sc)) 3 (.slice sA sl sc) (ivals n.trail) ∧ Row (((((((U52.setCell ⟨n8, 0, none⟩ (.int .u8 (n.kind : Int))).setCell ⟨n8, 1, none⟩ (.int .i64 n.train)).setCell ⟨n8, 2, none⟩ (.int .i64 n.time)).setCell ⟨n8, 3, none⟩ (.int .i64 n.dir)).setCell ⟨n8, 4, none⟩ (.int .i64 n.ahead)).setCell ⟨n8, 5, none⟩ (.bool n.whole)).setCell ⟨n8, 6, none⟩ (.slice sA sl sc)) g0 26 #[.int .u8 (s0.kind : Int), .int .u8 (s0.train : Int), .int .u8 (s0.dir : Int), .int .u32 (s0.time : Int), .int .u16 (s0.ahead : Int), .bool s0.whole, .slice A0 l0 c0] ∧ Below w.heap.size w (((((((U52.setCell ⟨n8, 0, none⟩ (.int .u8 (n.kind : Int))).setCell ⟨n8, 1, none⟩ (.int .i64 n.train)).setCell ⟨n8, 2, none⟩ (.int .i64 n.time)).setCell ⟨n8, 3, none⟩ (.int .i64 n.dir)).setCell ⟨n8, 4, none⟩ (.int .i64 n.ahead)).setCell ⟨n8, 5, none⟩ (.bool n.whole)).setCell ⟨n8, 6, none⟩ (.slice sA sl sc))) :=
            ⟨hp.2.2.row k7.out (by simpa using HNE.out), hp.1, kv1.out.kept hp.2.2 (Other.one k8.out (by decide)), kv2.out.kept hp.2.2 (Other.one k8.out (by decide)), hp.2.2.row k0.out (by simpa using ne0), kb.out.trans (hp.2.1.mono HG8.out)⟩
          clear hp ne0 k0 k1 k7 k8 kv1 kv2 kb
          generalize (((((((U52.setCell ⟨n8, 0, none⟩ (.int .u8 (n.kind : Int))).setCell ⟨n8, 1, none⟩ (.int .i64 n.train)).setCell ⟨n8, 2, none⟩ (.int .i64 n.time)).setCell ⟨n8, 3, none⟩ (.int .i64 n.dir)).setCell ⟨n8, 4, none⟩ (.int .i64 n.ahead)).setCell ⟨n8, 5, none⟩ (.bool n.whole)).setCell ⟨n8, 6, none⟩ (.slice sA sl sc)) = U53 at *
          refine AnyBut.done (by kernel_rfl) ?_
          go_wp2_with fail
          go_meet
          case rel => exact ⟨n7, n8, pA, pl, pc, sA, sl, sc, rfl, rfl, HX⟩
      · go_simp
        have hb := (Below.refl U44.heap.size U44).alloc (Nat.le_refl _) (.cells #[.int .u8 0, .int .i64 0, .int .i64 0, .int .i64 0, .int .i64 0, .bool false, .slice none 0 0] 29)
        have HBU54 := Lib.hid (HBU44.out.trans (hb.mono HBU44.out.size))
        have HR0U54 := Lib.hid (Below.row hb HR0U44.out HR0U44.out.lt)
        have HR1U54 := Lib.hid (Below.row hb HR1U44.out HR1U44.out.lt)
        have HN8U54 := Lib.hid (Below.row hb HN8U44.out HN8U44.out.lt)
        have HN7U54 := Lib.hid (Row.new U44 29 #[.int .u8 0, .int .i64 0, .int .i64 0, .int .i64 0, .int .i64 0, .bool false, .slice none 0 0])
        have HG7 : Hid (w.heap.size ≤ U44.heap.size) := HBU44.out.size
        have HNE : Hid (U44.heap.size ≠ n8) := by show _ ≠ _; have := HN8U44.out.lt; omega
        clear hb
        clear HBU44 HR0U44 HR1U44 HN8U44
        obtain ⟨n7, hn7⟩ : ∃ x, x = U44.heap.size := ⟨_, rfl⟩
        rw [← hn7] at HN7U54 HG7 HNE ⊢
        clear hn7
        generalize U44.alloc (.cells #[.int .u8 0, .int .i64 0, .int .i64 0, .int .i64 0, .int .i64 0, .bool false, .slice none 0 0] 29) = U54 at *
        first | refine ⟨⟨HR0U54.out, HR1U54.out⟩, ?_⟩ | refine ⟨fun _ => ⟨HR0U54.out, HR1U54.out⟩, ?_⟩
        refine AnyBut.one 1 rfl (by kernel_rfl) (by rfl) ?_
        go_simp
        refine (ofSay_t U54 s0 _ HOK0.out (HD0.out U54 HBU54.out)).mono ?_
        rintro e U55 ⟨VV, rfl, hv, hb⟩
        rw [HMM.out] at hv ⊢
        obtain ⟨pA, pl, pc, hva⟩ := hv.slice
        subst hva
        unfold msgV
        have HBU55 := Lib.hid (HBU54.out.trans (hb.mono HBU54.out.size))
        have HR0U55 := Lib.hid (Below.row hb HR0U54.out HR0U54.out.lt)
        have HR1U55 := Lib.hid (Below.row hb HR1U54.out HR1U54.out.lt)
        have HN7U55 := Lib.hid (Below.row hb HN7U54.out HN7U54.out.lt)
        have HN8U55 := Lib.hid (Below.row hb HN8U54.out HN8U54.out.lt)
        have HV1U55 := Lib.hid hv
        clear hb hv
        clear HBU54 HR0U54 HR1U54 HN7U54 HN8U54
        first | refine ⟨⟨HR0U55.out, HR1U55.out⟩, ?_⟩ | refine ⟨fun _ => ⟨HR0U55.out, HR1U55.out⟩, ?_⟩
        refine AnyBut.one 3 rfl (by kernel_rfl) (by rfl) ?_
        go_simp
        refine (ofSay_t U55 s1 _ HOK1.out (HD1.out U55 HBU55.out)).mono ?_
        rintro e U56 ⟨VV, rfl, hv, hb⟩
        rw [HNN.out] at hv ⊢
        obtain ⟨sA, sl, sc, hva⟩ := hv.slice
        subst hva
        unfold msgV
        have HBU56 := Lib.hid (HBU55.out.trans (hb.mono HBU55.out.size))
        have HR0U56 := Lib.hid (Below.row hb HR0U55.out HR0U55.out.lt)
        have HR1U56 := Lib.hid (Below.row hb HR1U55.out HR1U55.out.lt)
        have HV1U56 := Lib.hid (HV1U55.out.below hb)
        have HN7U56 := Lib.hid (Below.row hb HN7U55.out HN7U55.out.lt)
        have HN8U56 := Lib.hid (Below.row hb HN8U55.out HN8U55.out.lt)
        have HV2U56 := Lib.hid hv
        clear hb hv
        clear HBU55 HR0U55 HR1U55 HV1U55 HN7U55 HN8U55
        first | refine ⟨⟨HR0U56.out, HR1U56.out⟩, ?_⟩ | refine ⟨fun _ => ⟨HR0U56.out, HR1U56.out⟩, ?_⟩
        refine AnyBut.one 6 rfl (by kernel_rfl) (by rfl) ?_
        have hz := HN7U56.out
        have q0 := hz.cell 0; have r0 := hz.frozen 0
        have q1 := hz.cell 1; have r1 := hz.frozen 1
        have q2 := hz.cell 2; have r2 := hz.frozen 2
        have q3 := hz.cell 3; have r3 := hz.frozen 3
        have q4 := hz.cell 4; have r4 := hz.frozen 4
        have q5 := hz.cell 5; have r5 := hz.frozen 5
        have q6 := hz.cell 6; have r6 := hz.frozen 6
        simp only [List.getElem?_toArray, List.getElem?_cons_zero, List.getElem?_cons_succ] at q0 q1 q2 q3 q4 q5 q6
        go_simp
        have hp := put7 hz (.int .u8 (m.kind : Int)) (.int .i64 m.train) (.int .i64 m.time) (.int .i64 m.dir) (.int .i64 m.ahead) (.bool m.whole) (.slice pA pl pc)
        clear hz q0 r0 q1 r1 q2 r2 q3 r3 q4 r4 q5 r5 q6 r6
        have ne0 : g0 ≠ n7 := Row.ne HR0U56.out HN7U56.out (by decide)
        have ne1 : g1 ≠ n7 := Row.ne HR1U56.out HN7U56.out (by decide)
        have k0 := Lib.hid (hp.2.2.row HR0U56.out (by simpa using ne0)); have k1 := Lib.hid (hp.2.2.row HR1U56.out (by simpa using ne1))
        have k7 := Lib.hid hp.1; have k8 := Lib.hid (hp.2.2.row HN8U56.out (by simpa using HNE.out.symm))
        have kv1 := Lib.hid (HV1U56.out.kept hp.2.2 (Other.one HN7U56.out (by decide))); have kv2 := Lib.hid (HV2U56.out.kept hp.2.2 (Other.one HN7U56.out (by decide)))
        have kb : Hid (Below w.heap.size w (((((((U56.setCell ⟨n7, 0, none⟩ (.int .u8 (m.kind : Int))).setCell ⟨n7, 1, none⟩ (.int .i64 m.train)).setCell ⟨n7, 2, none⟩ (.int .i64 m.time)).setCell ⟨n7, 3, none⟩ (.int .i64 m.dir)).setCell ⟨n7, 4, none⟩ (.int .i64 m.ahead)).setCell ⟨n7, 5, none⟩ (.bool m.whole)).setCell ⟨n7, 6, none⟩ (.slice pA pl pc))) := HBU56.out.trans (hp.2.1.mono HG7.out)
        clear hp ne0 ne1
        clear HBU56 HR0U56 HR1U56 HV1U56 HV2U56 HN7U56 HN8U56
        generalize (((((((U56.setCell ⟨n7, 0, none⟩ (.int .u8 (m.kind : Int))).setCell ⟨n7, 1, none⟩ (.int .i64 m.train)).setCell ⟨n7, 2, none⟩ (.int .i64 m.time)).setCell ⟨n7, 3, none⟩ (.int .i64 m.dir)).setCell ⟨n7, 4, none⟩ (.int .i64 m.ahead)).setCell ⟨n7, 5, none⟩ (.bool m.whole)).setCell ⟨n7, 6, none⟩ (.slice pA pl pc)) = U57 at *
        first | refine ⟨⟨k0.out, k1.out⟩, ?_⟩ | refine ⟨fun _ => ⟨k0.out, k1.out⟩, ?_⟩
        refine AnyBut.one 7 rfl (by kernel_rfl) (by rfl) ?_
        have hz := k8.out
        have q0 := hz.cell 0; have r0 := hz.frozen 0
        have q1 := hz.cell 1; have r1 := hz.frozen 1
        have q2 := hz.cell 2; have r2 := hz.frozen 2
        have q3 := hz.cell 3; have r3 := hz.frozen 3
        have q4 := hz.cell 4; have r4 := hz.frozen 4
        have q5 := hz.cell 5; have r5 := hz.frozen 5
        have q6 := hz.cell 6; have r6 := hz.frozen 6
        simp only [List.getElem?_toArray, List.getElem?_cons_zero, List.getElem?_cons_succ] at q0 q1 q2 q3 q4 q5 q6
        go_simp
        have hp := put7 hz (.int .u8 (n.kind : Int)) (.int .i64 n.train) (.int .i64 n.time) (.int .i64 n.dir) (.int .i64 n.ahead) (.bool n.whole) (.slice sA sl sc)
        clear hz q0 r0 q1 r1 q2 r2 q3 r3 q4 r4 q5 r5 q6 r6
        have ne0 : g0 ≠ n8 := Row.ne k0.out k8.out (by decide)
        have HX : Hid (Row (((((((U57.setCell ⟨n8, 0, none⟩ (.int .u8 (n.kind : Int))).setCell ⟨n8, 1, none⟩ (.int .i64 n.train)).setCell ⟨n8, 2, none⟩ (.int .i64 n.time)).setCell ⟨n8, 3, none⟩ (.int .i64 n.dir)).setCell ⟨n8, 4, none⟩ (.int .i64 n.ahead)).setCell ⟨n8, 5, none⟩ (.bool n.whole)).setCell ⟨n8, 6, none⟩ (.slice sA sl sc)) n7 29 #[.int .u8 (m.kind : Int), .int .i64 m.train, .int .i64 m.time, .int .i64 m.dir, .int .i64 m.ahead, .bool m.whole, .slice pA pl pc] ∧ Row (((((((U57.setCell ⟨n8, 0, none⟩ (.int .u8 (n.kind : Int))).setCell ⟨n8, 1, none⟩ (.int .i64 n.train)).setCell ⟨n8, 2, none⟩ (.int .i64 n.time)).setCell ⟨n8, 3, none⟩ (.int .i64 n.dir)).setCell ⟨n8, 4, none⟩ (.int .i64 n.ahead)).setCell ⟨n8, 5, none⟩ (.bool n.whole)).setCell ⟨n8, 6, none⟩ (.slice sA sl sc)) n8 29 #[.int .u8 (n.kind : Int), .int .i64 n.train, .int .i64 n.time, .int .i64 n.dir, .int .i64 n.ahead, .bool n.whole, .slice sA sl sc] ∧ Tl (((((((U57.setCell ⟨n8, 0, none⟩ (.int .u8 (n.kind : Int))).setCell ⟨n8, 1, none⟩ (.int .i64 n.train)).setCell ⟨n8, 2, none⟩ (.int .i64 n.time)).setCell ⟨n8, 3, none⟩ (.int .i64 n.dir)).setCell ⟨n8, 4, none⟩ (.int .i64 n.ahead)).setCell ⟨n8, 5, none⟩ (.bool n.whole)).setCell ⟨n8, 6, none⟩ (.slice sA sl sc)) 3 (.slice pA pl pc) (ivals m.trail) ∧ Tl (((((((U57.setCell ⟨n8, 0, none⟩ (.int .u8 (n.kind : Int))).setCell ⟨n8, 1, none⟩ (.int .i64 n.train)).setCell ⟨n8, 2, none⟩ (.int .i64 n.time)).setCell ⟨n8, 3, none⟩ (.int .i64 n.dir)).setCell ⟨n8, 4, none⟩ (.int .i64 n.ahead)).setCell ⟨n8, 5, none⟩ (.bool n.whole)).setCell ⟨n8, 6, none⟩ (.slice sA sl sc)) 3 (.slice sA sl sc) (ivals n.trail) ∧ Row (((((((U57.setCell ⟨n8, 0, none⟩ (.int .u8 (n.kind : Int))).setCell ⟨n8, 1, none⟩ (.int .i64 n.train)).setCell ⟨n8, 2, none⟩ (.int .i64 n.time)).setCell ⟨n8, 3, none⟩ (.int .i64 n.dir)).setCell ⟨n8, 4, none⟩ (.int .i64 n.ahead)).setCell ⟨n8, 5, none⟩ (.bool n.whole)).setCell ⟨n8, 6, none⟩ (.slice sA sl sc)) g0 26 #[.int .u8 (s0.kind : Int), .int .u8 (s0.train : Int), .int .u8 (s0.dir : Int), .int .u32 (s0.time : Int), .int .u16 (s0.ahead : Int), .bool s0.whole, .slice A0 l0 c0] ∧ Below w.heap.size w (((((((U57.setCell ⟨n8, 0, none⟩ (.int .u8 (n.kind : Int))).setCell ⟨n8, 1, none⟩ (.int .i64 n.train)).setCell ⟨n8, 2, none⟩ (.int .i64 n.time)).setCell ⟨n8, 3, none⟩ (.int .i64 n.dir)).setCell ⟨n8, 4, none⟩ (.int .i64 n.ahead)).setCell ⟨n8, 5, none⟩ (.bool n.whole)).setCell ⟨n8, 6, none⟩ (.slice sA sl sc))) :=
          ⟨hp.2.2.row k7.out (by simpa using HNE.out), hp.1, kv1.out.kept hp.2.2 (Other.one k8.out (by decide)), kv2.out.kept hp.2.2 (Other.one k8.out (by decide)), hp.2.2.row k0.out (by simpa using ne0), kb.out.trans (hp.2.1.mono HG8.out)⟩
        clear hp ne0 k0 k1 k7 k8 kv1 kv2 kb
        generalize (((((((U57.setCell ⟨n8, 0, none⟩ (.int .u8 (n.kind : Int))).setCell ⟨n8, 1, none⟩ (.int .i64 n.train)).setCell ⟨n8, 2, none⟩ (.int .i64 n.time)).setCell ⟨n8, 3, none⟩ (.int .i64 n.dir)).setCell ⟨n8, 4, none⟩ (.int .i64 n.ahead)).setCell ⟨n8, 5, none⟩ (.bool n.whole)).setCell ⟨n8, 6, none⟩ (.slice sA sl sc)) = U58 at *
        refine AnyBut.done (by kernel_rfl) ?_
        go_wp2_with fail
        go_meet
        case rel => exact ⟨n7, n8, pA, pl, pc, sA, sl, sc, rfl, rfl, HX⟩
  case rest =>
  obtain ⟨n7, n8, pA, pl, pc, sA, sl, sc, rfl, rfl, HC⟩ := hcut
  obtain ⟨W1, hW1⟩ : ∃ x, x = wc := ⟨_, rfl⟩
  subst hW1
  have f0 := HC.out.2.2.2.2.1.cell 0
  have f1 := HC.out.2.2.2.2.1.cell 1
  have f2 := HC.out.2.2.2.2.1.cell 2
  have f3 := HC.out.2.2.2.2.1.cell 3
  have f4 := HC.out.2.2.2.2.1.cell 4
  have f5 := HC.out.2.2.2.2.1.cell 5
  have f6 := HC.out.2.2.2.2.1.cell 6
  simp only [List.getElem?_toArray, List.getElem?_cons_zero, List.getElem?_cons_succ] at f0 f1 f2 f3 f4 f5 f6
  go_wp2_with fail
  refine (ofSay_t W1 s0 _ HOK0.out (HD0.out W1 HC.out.2.2.2.2.2)).mono ?_
  rintro e W2 ⟨VV, rfl, hv, hb⟩
  rw [HMM.out] at hv ⊢
  obtain ⟨xA, xl, xc, hva⟩ := hv.slice
  subst hva
  unfold msgV
  have hb3 := (Below.refl W2.heap.size W2).alloc (Nat.le_refl _) (.cells #[.int .u8 (m.kind : Int), .int .i64 m.train, .int .i64 m.time, .int .i64 m.dir, .int .i64 m.ahead, .bool m.whole, .slice xA xl xc] 29)
  have hbb := hb.trans (hb3.mono hb.size)
  have HT : Hid (Three w (W2.alloc (.cells #[.int .u8 (m.kind : Int), .int .i64 m.train, .int .i64 m.time, .int .i64 m.dir, .int .i64 m.ahead, .bool m.whole, .slice xA xl xc] 29)) n7 n8 W2.heap.size m n m pA sA xA pl sl xl pc sc xc) :=
    ⟨Below.row hbb HC.out.1 HC.out.1.lt, Below.row hbb HC.out.2.1 HC.out.2.1.lt, Row.new W2 29 _, HC.out.2.2.1.below hbb, HC.out.2.2.2.1.below hbb, hv.below hb3, HC.out.2.2.2.2.2.trans (hbb.mono HC.out.2.2.2.2.2.size)⟩
  have HNE : Hid (n7 ≠ W2.heap.size ∧ n8 ≠ W2.heap.size) := by
    have h1 := HC.out.1.lt; have h2 := HC.out.2.1.lt; have h3 := hb.size
    exact ⟨by omega, by omega⟩
  have HG9 : Hid (w.heap.size ≤ W2.heap.size) := Nat.le_trans HC.out.2.2.2.2.2.size hb.size
  clear f0 f1 f2 f3 f4 f5 f6
  clear hb hb3 hbb hv HC HD0 HD1 HOK0 HOK1 HMM HNN
  go_upto_region 3 with (fail)
  obtain ⟨n9, hn9⟩ : ∃ x, x = W2.heap.size := ⟨_, rfl⟩
  rw [← hn9] at HT HNE HG9 ⊢
  clear hn9
  generalize W2.alloc (.cells #[.int .u8 (m.kind : Int), .int .i64 m.train, .int .i64 m.time, .int .i64 m.dir, .int .i64 m.ahead, .bool m.whole, .slice xA xl xc] 29) = W3 at *
  have hk6 : m.kind ≤ 6 := HFM.out.kind.2
  have ht0 : 0 ≤ m.train := HFM.out.train.1
  have ht1 : m.train < 64 := HFM.out.train.2
  have hn0 : 0 ≤ m.time := HFM.out.time.1
  have hn1 : m.time < 33554432 := HFM.out.time.2
  obtain ⟨r, hr⟩ : ∃ r : Nat, (a2n : Int) % 6 = (r : Int) := ⟨a2n % 6, by omega⟩
  have hr6 : r < 6 := by omega
  have HRR := Lib.hid hr
  have hrt : (a2n : Int).tmod 6 = (r : Int) := by rw [Int.tmod_eq_emod_of_nonneg (by omega)]; exact hr
  go_upto_block 0 with fail
  go_cut [24] (fun _ wx => ∃ x xA xl xc, Hid (Three w wx n7 n8 n9 m n x pA sA xA pl sl xl pc sc xc ∧ ¬ Alike m x ∧ x.trail.length ≤ 16))
  case first =>
    by_cases c0 : r = 0
    · subst c0
      have cc := HT.out.r9.cell 0; have zz := HT.out.r9.frozen 0
      simp only [List.getElem?_toArray, List.getElem?_cons_zero] at cc
      have HK : Hid (KeptL [n9] W3 (W3.setCell ⟨n9, 0, none⟩ (.int .u8 ((m.kind : Int) + 1)))) := (KeptL.refl [n9] W3).set (by simp) _
      have HX : Hid (Three w (W3.setCell ⟨n9, 0, none⟩ (.int .u8 ((m.kind : Int) + 1))) n7 n8 n9 m n { m with kind := m.kind + 1 } pA sA xA pl sl xl pc sc xc ∧ ¬ Alike m { m with kind := m.kind + 1 } ∧ m.trail.length ≤ 16) := by
        have hk := HK.out
        refine ⟨⟨hk.row HT.out.r7 (by simpa using HNE.out.1), hk.row HT.out.r8 (by simpa using HNE.out.2), HT.out.r9.set 0 _, HT.out.t7.kept hk (Other.one HT.out.r9 (by decide)), HT.out.t8.kept hk (Other.one HT.out.r9 (by decide)), HT.out.t9.kept hk (Other.one HT.out.r9 (by decide)), HT.out.below.setCell (p := ⟨n9, 0, none⟩) HG9.out _⟩, fun h => ?_, by have := HFM.out.trail; omega⟩
        have h1 := h.1; simp only at h1; omega
      clear HK HT
      go_wp2_with fail
      go_meet
      case rel => exact ⟨_, xA, xl, xc, HX⟩
    by_cases c1 : r = 1
    · subst c1
      have cc := HT.out.r9.cell 1; have zz := HT.out.r9.frozen 1
      simp only [List.getElem?_toArray, List.getElem?_cons_zero, List.getElem?_cons_succ] at cc
      have HK : Hid (KeptL [n9] W3 (W3.setCell ⟨n9, 1, none⟩ (.int .i64 (m.train + 1)))) := (KeptL.refl [n9] W3).set (by simp) _
      have HX : Hid (Three w (W3.setCell ⟨n9, 1, none⟩ (.int .i64 (m.train + 1))) n7 n8 n9 m n { m with train := m.train + 1 } pA sA xA pl sl xl pc sc xc ∧ ¬ Alike m { m with train := m.train + 1 } ∧ m.trail.length ≤ 16) := by
        have hk := HK.out
        refine ⟨⟨hk.row HT.out.r7 (by simpa using HNE.out.1), hk.row HT.out.r8 (by simpa using HNE.out.2), HT.out.r9.set 1 _, HT.out.t7.kept hk (Other.one HT.out.r9 (by decide)), HT.out.t8.kept hk (Other.one HT.out.r9 (by decide)), HT.out.t9.kept hk (Other.one HT.out.r9 (by decide)), HT.out.below.setCell (p := ⟨n9, 1, none⟩) HG9.out _⟩, fun h => ?_, by have := HFM.out.trail; omega⟩
        have h1 := h.2.1; simp only at h1; omega
      clear HK HT
      go_wp2_with fail
      go_meet
      case rel => exact ⟨_, xA, xl, xc, HX⟩
    by_cases c2 : r = 2
    · subst c2
      have cc := HT.out.r9.cell 2; have zz := HT.out.r9.frozen 2
      simp only [List.getElem?_toArray, List.getElem?_cons_zero, List.getElem?_cons_succ] at cc
      have HK : Hid (KeptL [n9] W3 (W3.setCell ⟨n9, 2, none⟩ (.int .i64 (m.time + 1)))) := (KeptL.refl [n9] W3).set (by simp) _
      have HX : Hid (Three w (W3.setCell ⟨n9, 2, none⟩ (.int .i64 (m.time + 1))) n7 n8 n9 m n { m with time := m.time + 1 } pA sA xA pl sl xl pc sc xc ∧ ¬ Alike m { m with time := m.time + 1 } ∧ m.trail.length ≤ 16) := by
        have hk := HK.out
        refine ⟨⟨hk.row HT.out.r7 (by simpa using HNE.out.1), hk.row HT.out.r8 (by simpa using HNE.out.2), HT.out.r9.set 2 _, HT.out.t7.kept hk (Other.one HT.out.r9 (by decide)), HT.out.t8.kept hk (Other.one HT.out.r9 (by decide)), HT.out.t9.kept hk (Other.one HT.out.r9 (by decide)), HT.out.below.setCell (p := ⟨n9, 2, none⟩) HG9.out _⟩, fun h => ?_, by have := HFM.out.trail; omega⟩
        have h1 := h.2.2.1; simp only at h1; omega
      clear HK HT
      go_wp2_with fail
      go_meet
      case rel => exact ⟨_, xA, xl, xc, HX⟩
    by_cases c3 : r = 3
    · subst c3
      have cc := HT.out.r9.cell 3; have zz := HT.out.r9.frozen 3
      simp only [List.getElem?_toArray, List.getElem?_cons_zero, List.getElem?_cons_succ] at cc
      have HK : Hid (KeptL [n9] W3 (W3.setCell ⟨n9, 3, none⟩ (.int .i64 5))) := (KeptL.refl [n9] W3).set (by simp) _
      have HX : Hid (Three w (W3.setCell ⟨n9, 3, none⟩ (.int .i64 5)) n7 n8 n9 m n { m with dir := 5 } pA sA xA pl sl xl pc sc xc ∧ ¬ Alike m { m with dir := 5 } ∧ m.trail.length ≤ 16) := by
        have hk := HK.out
        refine ⟨⟨hk.row HT.out.r7 (by simpa using HNE.out.1), hk.row HT.out.r8 (by simpa using HNE.out.2), HT.out.r9.set 3 _, HT.out.t7.kept hk (Other.one HT.out.r9 (by decide)), HT.out.t8.kept hk (Other.one HT.out.r9 (by decide)), HT.out.t9.kept hk (Other.one HT.out.r9 (by decide)), HT.out.below.setCell (p := ⟨n9, 3, none⟩) HG9.out _⟩, fun h => ?_, by have := HFM.out.trail; omega⟩
        have h1 := h.2.2.2.1; have h2 := HFM.out.dir; simp only at h1; omega
      clear HK HT
      go_wp2_with fail
      go_meet
      case rel => exact ⟨_, xA, xl, xc, HX⟩
    by_cases c4 : r = 4
    · subst c4
      have cc := HT.out.r9.cell 5; have zz := HT.out.r9.frozen 5
      simp only [List.getElem?_toArray, List.getElem?_cons_zero, List.getElem?_cons_succ] at cc
      have HK : Hid (KeptL [n9] W3 (W3.setCell ⟨n9, 5, none⟩ (.bool (!m.whole)))) := (KeptL.refl [n9] W3).set (by simp) _
      have HX : Hid (Three w (W3.setCell ⟨n9, 5, none⟩ (.bool (!m.whole))) n7 n8 n9 m n { m with whole := !m.whole } pA sA xA pl sl xl pc sc xc ∧ ¬ Alike m { m with whole := !m.whole } ∧ m.trail.length ≤ 16) := by
        have hk := HK.out
        refine ⟨⟨hk.row HT.out.r7 (by simpa using HNE.out.1), hk.row HT.out.r8 (by simpa using HNE.out.2), HT.out.r9.set 5 _, HT.out.t7.kept hk (Other.one HT.out.r9 (by decide)), HT.out.t8.kept hk (Other.one HT.out.r9 (by decide)), HT.out.t9.kept hk (Other.one HT.out.r9 (by decide)), HT.out.below.setCell (p := ⟨n9, 5, none⟩) HG9.out _⟩, fun h => ?_, by have := HFM.out.trail; omega⟩
        have h1 := h.2.2.2.2.2.1; simp only at h1; cases hh : m.whole <;> rw [hh] at h1 <;> cases h1
      clear HK HT
      go_wp2_with fail
      go_meet
      case rel => exact ⟨_, xA, xl, xc, HX⟩
    · obtain rfl : r = 5 := by omega
      have cc := HT.out.r9.cell 6; have zz := HT.out.r9.frozen 6
      simp only [List.getElem?_toArray, List.getElem?_cons_zero, List.getElem?_cons_succ] at cc
      have HTL : Hid (m.trail.length ≤ 15) := HFM.out.trail
      obtain ⟨xq, hxq⟩ : ∃ q, ivals m.trail = q := ⟨_, rfl⟩
      have hxl : xq.length ≤ 15 := by rw [← hxq, ivals_length]; exact HFM.out.trail
      have hx1 : ∀ u ∈ xq, u.oneCell' = true := by rw [← hxq]; exact ivals_one _
      have HXQ := Lib.hid hxq
      have t9 := HT.out.t9
      rw [hxq] at t9
      have hrd := t9.rd
      obtain ⟨A', c', hv, h0, -⟩ := id t9
      injection hv with e1 e2 e3
      subst e1 e2 e3
      clear hxq
      have HFIN : Hid (∀ (V : World) (v6 : Value), V.ownsRow W3.heap.size 3 1 v6 (xq.length + 1) (xq ++ [.int .i64 3]) → Below W3.heap.size W3 V → (∃ A l c, v6 = .slice A l c ∧ Hid (Three w (V.setCell ⟨n9, 6, none⟩ v6) n7 n8 n9 m n { m with trail := m.trail ++ [3] } pA sA A pl sl l pc sc c ∧ ¬ Alike m { m with trail := m.trail ++ [3] } ∧ (m.trail ++ [3]).length ≤ 16))) := by
        intro V v6 ho hb
        obtain ⟨A, c, hv6⟩ := own_slice ho
        subst hv6
        have hT := HT.out.up hb
        have hk : KeptL [n9] V (V.setCell ⟨n9, 6, none⟩ (.slice A (xq.length + 1) c)) := (KeptL.refl [n9] V).set (by simp) _
        have e : xq ++ [.int .i64 3] = ivals (m.trail ++ [3]) := by rw [← HXQ.out, ivals_snoc]
        rw [e] at ho
        refine ⟨A, _, c, rfl, ⟨hk.row hT.r7 (by simpa using HNE.out.1), hk.row hT.r8 (by simpa using HNE.out.2), hT.r9.set 6 _, hT.t7.kept hk (Other.one hT.r9 (by decide)), hT.t8.kept hk (Other.one hT.r9 (by decide)), (Tl.of_own ho).kept hk (Other.one hT.r9 (by decide)), hT.below.setCell (p := ⟨n9, 6, none⟩) HG9.out _⟩, fun h => ?_, by have := HTL.out; simp; omega⟩
        have h1 := h.2.2.2.2.2.2
        simp at h1
      have HN9 : Hid (∀ V : World, Below W3.heap.size W3 V → V.cell? ⟨n9, 6, none⟩ = some (.slice xA xq.length xc) ∧ V.frozen? ⟨n9, 6, none⟩ = false) := fun V hb => by
        have hr := (HT.out.up hb).r9
        exact ⟨by have := hr.cell 6; simpa using this, hr.frozen 6⟩
      cases xA with
      | none =>
        have hc0 : xc = 0 := h0.1 rfl
        have hn0 : xq.length = 0 := by have := h0.2; omega
        have hq0 : xq = [] := List.eq_nil_of_length_eq_zero hn0
        subst hc0
        rw [hn0]
        rw [hn0] at cc
        have hb4 := (Below.refl W3.heap.size W3).alloc (Nat.le_refl _) (.cells #[.int .i64 3] 3)
        have HOW4 : Hid (((W3.alloc (.cells #[.int .i64 3] 3))).ownsRow W3.heap.size 3 1 (.slice none 0 0) 0 []) := World.ownsRow_nil _ _ _ _
        have HB4 := Lib.hid hb4
        clear hb4 t9 hrd HT
        go_wp2_with (first
          | (at_builtin; refine wpList_append_own_none rfl (.const (.slice none 0 0)) (.tmp 19) 27 rfl W3.heap.size 3 i3 1 Try.underlying27 hi3 _ 0 [] rfl (World.ownsRow_nil _ _ _ _) rfl ?_)
          | (at_builtin; refine wpList_append_own _ rfl (.tmp 20) (.tmp 21) 27 rfl W3.heap.size 3 i3 (.int .i64 0) 1 8 Try.underlying27 hi3 hz30 hz31 hz32 rfl (by decide) _ _ _ rfl HOW4.out ⟨W3.heap.size, 0, none⟩ 1 1 [.int .i64 3] rfl rfl (one_new W3 3 _) (one_cell rfl) (by unfold maxLen; omega) (by omega) HB4.out.size ?_))
        intro v6 V6 hown6 hgrow6 _
        have hb6 : Below W3.heap.size W3 V6 := HB4.out.grown hgrow6 HB4.out.size (fun k hk => (HOW4.out.lt k hk).1)
        obtain ⟨A6, l6, c6, hv6, HX⟩ := HFIN.out V6 v6 (by rw [hq0]; exact hown6) hb6
        subst hv6
        obtain ⟨cc6, zz6⟩ := HN9.out V6 hb6
        clear hown6 hgrow6 hb6 cc zz
        go_wp2_with fail
        go_meet
        case rel => exact ⟨_, A6, l6, c6, HX⟩
      | some ad =>
        have Hc := Lib.hid hrd.cells
        clear t9 hrd HT
        go_wp2_with (at_builtin; refine wpList_append_own _ rfl (.const (.slice none 0 0)) (.tmp 19) 27 rfl W3.heap.size 3 i3 (.int .i64 0) 1 8 Try.underlying27 hi3 hz30 hz31 hz32 rfl (by decide) _ 0 [] rfl (World.ownsRow_nil _ _ _ _) ad _ _ xq rfl (by omega) Hc.out hx1 (by unfold maxLen; omega) (by omega) (Nat.le_refl _) ?_)
        intro v5 V5 hown5 hgrow5 _
        have hb5 : Below W3.heap.size W3 V5 := (Below.refl _ _).grown hgrow5 (Nat.le_refl _) (fun k hk => by simp [Value.ownBlock] at hk)
        have HO5 : Hid (V5.ownsRow W3.heap.size 3 1 v5 xq.length xq) := by have := hown5; simpa [Hid] using this
        obtain ⟨A5, c5, hv5⟩ := own_slice HO5.out
        subst hv5
        have HB5 := Lib.hid hb5
        have HB4 := Lib.hid (hb5.alloc hb5.size (.cells #[.int .i64 3] 3))
        clear hown5 hgrow5 hb5
        go_wp2_with (at_builtin; refine wpList_append_own _ rfl (.tmp 20) (.tmp 21) 27 rfl W3.heap.size 3 i3 (.int .i64 0) 1 8 Try.underlying27 hi3 hz30 hz31 hz32 rfl (by decide) _ _ _ rfl (HO5.out.alloc _) ⟨V5.heap.size, 0, none⟩ 1 1 [.int .i64 3] rfl rfl (one_new V5 3 _) (one_cell rfl) (by unfold maxLen; omega) (by omega) HB4.out.size ?_)
        intro v6 V6 hown6 hgrow6 _
        have hb6 : Below W3.heap.size W3 V6 := HB4.out.grown hgrow6 HB4.out.size (fun k hk => (HO5.out.lt k hk).1)
        obtain ⟨A6, l6, c6, hv6, HX⟩ := HFIN.out V6 v6 hown6 hb6
        subst hv6
        obtain ⟨cc6, zz6⟩ := HN9.out V6 hb6
        clear hown6 hgrow6 hb6 cc zz
        go_wp2_with fail
        go_meet
        case rel => exact ⟨_, A6, l6, c6, HX⟩
  case rest =>
  clear hr hrt HRR hr6
  obtain ⟨x, yA, yl, yc, HX⟩ := hcut
  obtain ⟨W5, hW5⟩ : ∃ z, z = wc := ⟨_, rfl⟩
  subst hW5
  clear HT hk6 ht0 ht1 hn0 hn1
  have H0 : Hid (Three w W5.drew n7 n8 n9 m n x pA sA yA pl sl yl pc sc yc) := HX.out.1.up ⟨rfl, rfl, rfl, Nat.le_refl _, fun _ _ => rfl⟩
  have HLX : Hid (x.trail.length ≤ 1000 ∧ m.trail.length ≤ 1000) := ⟨by have := HX.out.2.2; omega, by have := HFM.out.trail; omega⟩
  obtain ⟨dmn, hdmn⟩ : ∃ d, decide (Alike m n) = d := ⟨_, rfl⟩
  have HDMN := Lib.hid hdmn
  have HDMX : Hid (decide (Alike m x) = false) := decide_eq_false HX.out.2.1
  clear hdmn HX
  go_upto_region 15 with (fail)
  have s0 := H0.out.cells
  go_region_held3 (fun w' => w'.cell? ⟨n7, 0, none⟩ = some (.int .u8 (m.kind : Int)) ∧ w'.cell? ⟨n7, 1, none⟩ = some (.int .i64 m.train) ∧ w'.cell? ⟨n7, 2, none⟩ = some (.int .i64 m.time) ∧ w'.cell? ⟨n7, 3, none⟩ = some (.int .i64 m.dir) ∧ w'.cell? ⟨n7, 4, none⟩ = some (.int .i64 m.ahead) ∧ w'.cell? ⟨n7, 5, none⟩ = some (.bool m.whole) ∧ w'.cell? ⟨n7, 6, none⟩ = some (.slice pA pl pc) ∧ w'.cell? ⟨n8, 0, none⟩ = some (.int .u8 (n.kind : Int)) ∧ w'.cell? ⟨n8, 1, none⟩ = some (.int .i64 n.train) ∧ w'.cell? ⟨n8, 2, none⟩ = some (.int .i64 n.time) ∧ w'.cell? ⟨n8, 3, none⟩ = some (.int .i64 n.dir) ∧ w'.cell? ⟨n8, 4, none⟩ = some (.int .i64 n.ahead) ∧ w'.cell? ⟨n8, 5, none⟩ = some (.bool n.whole) ∧ w'.cell? ⟨n8, 6, none⟩ = some (.slice sA sl sc) ∧ w'.cell? ⟨n9, 0, none⟩ = some (.int .u8 (x.kind : Int)) ∧ w'.cell? ⟨n9, 1, none⟩ = some (.int .i64 x.train) ∧ w'.cell? ⟨n9, 2, none⟩ = some (.int .i64 x.time) ∧ w'.cell? ⟨n9, 3, none⟩ = some (.int .i64 x.dir) ∧ w'.cell? ⟨n9, 4, none⟩ = some (.int .i64 x.ahead) ∧ w'.cell? ⟨n9, 5, none⟩ = some (.bool x.whole) ∧ w'.cell? ⟨n9, 6, none⟩ = some (.slice yA yl yc)) (first | exact s5 | exact s4 | exact s3 | exact s2 | exact s1 | exact s0 | go_keep) (first | (go_at_call 12; (with_reducible refine (open_any W5.drew).mono ?_); rintro e v1 ⟨rfl, hb⟩; have H1 : Hid (Three w v1 n7 n8 n9 m n x pA sA yA pl sl yl pc sc yc) := H0.out.up hb; have s1 := H1.out.cells; clear hb) | (go_at_call 16; (with_reducible refine (same_any v1 _ _ m n H1.out.m7 H1.out.m8 HLX.out.2).mono ?_); rintro e v2 ⟨rfl, hb⟩; rw [HDMN.out]; have H2 : Hid (Three w v2 n7 n8 n9 m n x pA sA yA pl sl yl pc sc yc) := H1.out.up hb; have s2 := H2.out.cells; clear hb) | (go_at_call 15; (with_reducible refine (refSame_any v2 _ _ m n H2.out.m7 H2.out.m8 HLX.out.2).mono ?_); rintro e v3 ⟨rfl, hb⟩; rw [HDMN.out]; have H3 : Hid (Three w v3 n7 n8 n9 m n x pA sA yA pl sl yl pc sc yc) := H2.out.up hb; have s3 := H3.out.cells; clear hb) | (go_at_call 16; (with_reducible refine (same_any v3 _ _ m m H3.out.m7 H3.out.m7 HLX.out.2).mono ?_); rintro e v4 ⟨rfl, hb⟩; rw [decide_eq_true (alike_refl m)]; have H4 : Hid (Three w v4 n7 n8 n9 m n x pA sA yA pl sl yl pc sc yc) := H3.out.up hb; have s4 := H4.out.cells; clear hb) | (go_at_call 16; (with_reducible refine (same_any v4 _ _ m x H4.out.m7 H4.out.m9 HLX.out.2).mono ?_); rintro e v5 ⟨rfl, hb⟩; rw [HDMX.out]; have H5 : Hid (Three w v5 n7 n8 n9 m n x pA sA yA pl sl yl pc sc yc) := H4.out.up hb; have s5 := H5.out.cells; clear hb))
  go_wp2_with fail
  go_ret
  exact ⟨rfl, H5.out.below⟩

theorem lifted (os : Os) (started : os.Started) (H : Type) (enc : TypeId × Value → H) :
    ReturnsInHanded {} Try.checked os 7 .any (Rows.messageSameSpec.pre6 enc Try.prog Try.f7 Rows.messageSameRow.domain false) (Rows.messageSameSpec.post enc Try.prog Try.f7 false true false false) := by
  refine returnsInHanded_of_change (C := Try.checked) own started (by kernel_rfl) Try.func7
    (ChangeSpec.witness6 (enc := enc) (C := Try.checked) false ⟨#[], #[.agg #[.int .u8 0, .int .u8 0, .int .u8 0, .int .u32 0, .int .u16 0, .bool false, .slice none 0 0], .agg #[.int .u8 0, .int .u8 0, .int .u8 0, .int .u32 0, .int .u16 0, .bool false, .slice none 0 0], .int .u8 0], []⟩ 8 (by kernel_rfl) (by kernel_rfl) (by kernel_rfl) (by kernel_rfl)) ?_
  intro W base args ds gs before hval0 hW hcnd _
  have hval : ∀ (j : Nat) t v, Try.f7.params[j]? = some t → args[j]? = some v → Value.okWide Try.prog W .any base t v := hval0
  have hW' := hW
  obtain ⟨p, q, hA0, hV, rfl, hfz, hnd⟩ := hW
  have hA : DataW.TrodAll enc Try.prog W 0 (fun _ => true) true Try.f7.params.toList args.toList ds p := hA0
  rw [Try.params7] at hA hval
  obtain ⟨v0, vs0, d0, ds0, p0, q0, hargs, rfl, rfl, h0, r0⟩ := trodAll_cons hA
  obtain ⟨v1, vs1, d1, ds1, p1, q1, rfl, rfl, rfl, h1, r1⟩ := trodAll_cons r0
  obtain ⟨v2, vs2, d2, ds2, p2, q2, rfl, rfl, rfl, h2, r2⟩ := trodAll_cons r1
  obtain ⟨rfl, rfl, rfl⟩ := trodAll_nil r2
  obtain rfl : args = #[v0, v1, v2] := by cases args; simp_all
  obtain ⟨rfl, rfl⟩ := trodVars_none hV
  have k0 := h0
  have lt0 : ∀ x ∈ p0, x.block < W.heap.size := by obtain ⟨m, hm⟩ := k0; exact DataW.trod_lt m _ _ _ hm
  obtain ⟨e0, vr0, hv0, w0⟩ := say_of_trod (hval 0 26 v0 rfl rfl) h0
  subst hv0
  have k1 := h1
  have lt1 : ∀ x ∈ p1, x.block < W.heap.size := by obtain ⟨m, hm⟩ := k1; exact DataW.trod_lt m _ _ _ hm
  obtain ⟨e1, vr1, hv1, w1⟩ := say_of_trod (hval 1 26 v1 rfl rfl) h1
  subst hv1
  obtain ⟨a2, rfl, rfl, rfl, w2⟩ := open_int Try.underlying5 (hval 2 5 v2 rfl rfl) h2
  clear hA0 hval0
  refine (walk e0 vr0 e1 vr1 a2 W w0 w1 w2).mono fun e W' ⟨he, bel⟩ => ?_
  subst he
  exact ⟨_, rfl, _, _, _, [], _, [], hW', trodAll_mk1 (shut_bool Try.underlying4 _), (trodAll_cons_mk (Below.trod laidOut (by kernel_rfl) (of_decide_eq_true (by kernel_rfl)) k0 bel lt0) (trodAll_cons_mk (Below.trod laidOut (by kernel_rfl) (of_decide_eq_true (by kernel_rfl)) k1 bel lt1) (trodAll_cons_mk (shut_int Try.underlying5 w2) trodAll_mk0))), rfl, bel.frame _, fun h => by cases h⟩

theorem over : Rows.messageSameRow.holds Try.pinned (OpenSpec.ofChange Rows.messageSameSpec) :=
  OpenClaim.holds_of_wide 7 Try.f7 rfl rfl rfl rfl rfl rfl rfl ⟨rfl, rfl, rfl, rfl, rfl⟩ rfl rfl rfl rfl rfl (by kernel_rfl) Try.func7 (by kernel_rfl)
    (of_decide_eq_true (by kernel_rfl)) (by unfold Func.isWrapper; first | (rw [if_pos (by decide +kernel)]; kernel_rfl) | (rw [if_neg (by decide +kernel)]; exact ⟨rfl, rfl⟩))
    (fun os started H enc _ => lifted os started H enc)

theorem proved : Rows.MessageSameSaid := over
#print axioms proved
end Go.Proofs.Ytcfnaajnkloobaa.messageSame
