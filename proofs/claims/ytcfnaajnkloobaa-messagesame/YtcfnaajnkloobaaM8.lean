/- Contract: the document's Decode. -/
import Derived.Test.YtcfnaajnkloobaaM7
namespace Go.Proofs.Ytcfnaajnkloobaa
open Go.RowKit
set_option maxRecDepth 100000

/-- What the document's Decode keeps: the result, what is none, the message, the reader. -/
structure RDS (w W : World) (n0 b0 g : Nat) (C : Array Value) (s : St) : Prop where
  res : Row W n0 29 #[.int .u8 0, .int .i64 0, .int .i64 0, .int .i64 0, .int .i64 0, .bool false, .slice none 0 0]
  non : Row W (n0 + 1) 29 #[.int .u8 0, .int .i64 0, .int .i64 0, .int .i64 0, .int .i64 0, .bool false, .slice none 0 0]
  msg : Row W (n0 + 2) 29 C
  is : IS W b0 g s
  bg : b0 ≠ g
  b2 : b0 ≠ n0 + 2
  bs : b0 < W.heap.size
  below : Below n0 w W
  gn : n0 < g

theorem RDS.ne {w W : World} {n0 b0 g : Nat} {C : Array Value} {s : St} (h : RDS w W n0 b0 g C s) : n0 ≠ g ∧ n0 + 1 ≠ g ∧ n0 + 2 ≠ g := by
  obtain ⟨cs, hg⟩ := h.is.row
  exact ⟨Row.ne h.res hg (by decide), Row.ne h.non hg (by decide), Row.ne h.msg hg (by decide)⟩

theorem RDS.get {w W W' : World} {n0 b0 g : Nat} {C : Array Value} {s s' : St} (h : RDS w W n0 b0 g C s) (h1 : IS W' b0 g s') (k1 : KeptL [g] W W') : RDS w W' n0 b0 g C s' := by
  have hn := h.ne
  refine ⟨k1.row h.res (by simpa using hn.1), k1.row h.non (by simpa using hn.2.1), k1.row h.msg (by simpa using hn.2.2), h1, h.bg, h.b2, Nat.lt_of_lt_of_le h.bs k1.size, h.below.trans (k1.below (Nat.le_of_lt h.res.lt) ?_), h.gn⟩
  intro k hk
  have := h.gn
  simp at hk; omega

theorem RDS.set {w W : World} {n0 b0 g : Nat} {C : Array Value} {s : St} (h : RDS w W n0 b0 g C s) (i : Nat) (u : Value) : RDS w (W.setCell ⟨n0 + 2, i, none⟩ u) n0 b0 g (C.setIfInBounds i u) s :=
  ⟨h.res.far (show n0 ≠ n0 + 2 by omega) u, h.non.far (show n0 + 1 ≠ n0 + 2 by omega) u, h.msg.set i u, h.is.setL h.msg (by decide) h.b2 u, h.bg, h.b2, by simpa [World.setCell] using h.bs, h.below.setCell (p := ⟨n0 + 2, i, none⟩) (show n0 ≤ n0 + 2 by omega) u, h.gn⟩

theorem RDS.drewN {w W : World} {n0 b0 g : Nat} {C : Array Value} {s : St} (h : RDS w W n0 b0 g C s) (m : Nat) : RDS w (W.drewN m) n0 b0 g C s :=
  ⟨h.res, h.non, h.msg, h.is.fresh ⟨rfl, rfl, rfl, Nat.le_refl _, fun _ _ => rfl⟩, h.bg, h.b2, h.bs, ⟨h.below.os, h.below.tape, h.below.output, h.below.size, h.below.block⟩, h.gn⟩

theorem rds_of (w : World) : Row (((w.alloc (.cells #[.int .u8 0, .int .i64 0, .int .i64 0, .int .i64 0, .int .i64 0, .bool false, .slice none 0 0] 29)).alloc (.cells #[.int .u8 0, .int .i64 0, .int .i64 0, .int .i64 0, .int .i64 0, .bool false, .slice none 0 0] 29)).alloc (.cells #[.int .u8 0, .int .i64 0, .int .i64 0, .int .i64 0, .int .i64 0, .bool false, .slice none 0 0] 29)) w.heap.size 29 #[.int .u8 0, .int .i64 0, .int .i64 0, .int .i64 0, .int .i64 0, .bool false, .slice none 0 0] ∧ Row (((w.alloc (.cells #[.int .u8 0, .int .i64 0, .int .i64 0, .int .i64 0, .int .i64 0, .bool false, .slice none 0 0] 29)).alloc (.cells #[.int .u8 0, .int .i64 0, .int .i64 0, .int .i64 0, .int .i64 0, .bool false, .slice none 0 0] 29)).alloc (.cells #[.int .u8 0, .int .i64 0, .int .i64 0, .int .i64 0, .int .i64 0, .bool false, .slice none 0 0] 29)) (w.heap.size + 1) 29 #[.int .u8 0, .int .i64 0, .int .i64 0, .int .i64 0, .int .i64 0, .bool false, .slice none 0 0] ∧ Row (((w.alloc (.cells #[.int .u8 0, .int .i64 0, .int .i64 0, .int .i64 0, .int .i64 0, .bool false, .slice none 0 0] 29)).alloc (.cells #[.int .u8 0, .int .i64 0, .int .i64 0, .int .i64 0, .int .i64 0, .bool false, .slice none 0 0] 29)).alloc (.cells #[.int .u8 0, .int .i64 0, .int .i64 0, .int .i64 0, .int .i64 0, .bool false, .slice none 0 0] 29)) (w.heap.size + 2) 29 #[.int .u8 0, .int .i64 0, .int .i64 0, .int .i64 0, .int .i64 0, .bool false, .slice none 0 0] ∧ Below w.heap.size w (((w.alloc (.cells #[.int .u8 0, .int .i64 0, .int .i64 0, .int .i64 0, .int .i64 0, .bool false, .slice none 0 0] 29)).alloc (.cells #[.int .u8 0, .int .i64 0, .int .i64 0, .int .i64 0, .int .i64 0, .bool false, .slice none 0 0] 29)).alloc (.cells #[.int .u8 0, .int .i64 0, .int .i64 0, .int .i64 0, .int .i64 0, .bool false, .slice none 0 0] 29)) := by
  have r2 := Row.new (w.alloc (.cells #[.int .u8 0, .int .i64 0, .int .i64 0, .int .i64 0, .int .i64 0, .bool false, .slice none 0 0] 29)) 29 #[.int .u8 0, .int .i64 0, .int .i64 0, .int .i64 0, .int .i64 0, .bool false, .slice none 0 0]
  rw [World.size_alloc] at r2
  have r3 := Row.new ((w.alloc (.cells #[.int .u8 0, .int .i64 0, .int .i64 0, .int .i64 0, .int .i64 0, .bool false, .slice none 0 0] 29)).alloc (.cells #[.int .u8 0, .int .i64 0, .int .i64 0, .int .i64 0, .int .i64 0, .bool false, .slice none 0 0] 29)) 29 #[.int .u8 0, .int .i64 0, .int .i64 0, .int .i64 0, .int .i64 0, .bool false, .slice none 0 0]
  rw [World.size_alloc, World.size_alloc] at r3
  exact ⟨((Row.new w 29 _).alloc _).alloc _, r2.alloc _, r3, (((Below.refl _ _).alloc (Nat.le_refl _) _).alloc (by simp) _).alloc (by simp [World.size_alloc]; omega) _⟩

/-- The first number is there just if there are bytes. -/
theorem get3_none {o : List Nat} (h : o.length = 0) : (tget 3 (body o)).2 = none := by
  unfold body; rw [tget_short (by rw [upto_length]; omega)]
theorem get3_some {o : List Nat} (h : o.length ≠ 0) : ∃ l, (tget 3 (body o)).2 = some l := by
  unfold body; rw [tget_long (by rw [upto_length]; omega)]; exact ⟨_, rfl⟩

set_option maxHeartbeats 1600000 in
theorem refDecode_short (w : World) (v : Value) (q : List Nat) (h : Rd w w.heap.size v (bvals q)) (hq : ∀ x ∈ q, x < 256) (_hl : q.length ≤ 400) (h2 : q.length < 2) : Calls Try.prog 38 #[v] w (RetDec (M0, 4) w) := by
  obtain ⟨i3, hi3, hz30, hz31, hz32⟩ := info_parts Try.info3
  obtain ⟨R, hR⟩ : ∃ R : Msg × Int, (M0, 4) = R := ⟨_, rfl⟩
  rw [hR]
  have HRR := Lib.hid hR; clear hR
  obtain ⟨hr0, hx0, hm0, hb0⟩ := rds_of w
  have HR0 := Lib.hid hr0; have HX0 := Lib.hid hx0; have HM0 := Lib.hid hm0; have HB0 := Lib.hid hb0
  have HV : Hid (Rd (((w.alloc (.cells #[.int .u8 0, .int .i64 0, .int .i64 0, .int .i64 0, .int .i64 0, .bool false, .slice none 0 0] 29)).alloc (.cells #[.int .u8 0, .int .i64 0, .int .i64 0, .int .i64 0, .int .i64 0, .bool false, .slice none 0 0] 29)).alloc (.cells #[.int .u8 0, .int .i64 0, .int .i64 0, .int .i64 0, .int .i64 0, .bool false, .slice none 0 0] 29)) (((w.alloc (.cells #[.int .u8 0, .int .i64 0, .int .i64 0, .int .i64 0, .int .i64 0, .bool false, .slice none 0 0] 29)).alloc (.cells #[.int .u8 0, .int .i64 0, .int .i64 0, .int .i64 0, .int .i64 0, .bool false, .slice none 0 0] 29)).alloc (.cells #[.int .u8 0, .int .i64 0, .int .i64 0, .int .i64 0, .int .i64 0, .bool false, .slice none 0 0] 29)).heap.size v (bvals q)) := h.up hb0
  have HQ := Lib.hid hq
  have H2 := Lib.hid h2; clear h2
  obtain ⟨n0, hn0⟩ : ∃ n, n = w.heap.size := ⟨_, rfl⟩
  clear h hq hr0 hx0 hm0 hb0
  go_enter Try.func38, Try.ntmps38
  go_upto_region 2 with (fail)
  rw [← hn0] at HR0 HX0 HM0 HB0 ⊢
  have HN0 := Lib.hid hn0; clear hn0
  generalize ((w.alloc (.cells #[.int .u8 0, .int .i64 0, .int .i64 0, .int .i64 0, .int .i64 0, .bool false, .slice none 0 0] 29)).alloc (.cells #[.int .u8 0, .int .i64 0, .int .i64 0, .int .i64 0, .int .i64 0, .bool false, .slice none 0 0] 29)).alloc (.cells #[.int .u8 0, .int .i64 0, .int .i64 0, .int .i64 0, .int .i64 0, .bool false, .slice none 0 0] 29) = W0 at *
  rw [show n0 + 1 + 1 = n0 + 2 from rfl]
  go_wp2_with fail
  refine (refOpen_short W0 _ v q HV.out H2.out).mono ?_
  rintro e W1 ⟨rfl, rfl⟩
  have hz := HR0.out
  have hx := HX0.out
  have xx0 := hx.cell 0
  have xx1 := hx.cell 1
  have xx2 := hx.cell 2
  have xx3 := hx.cell 3
  have xx4 := hx.cell 4
  have xx5 := hx.cell 5
  have xx6 := hx.cell 6
  simp only [List.getElem?_toArray, List.getElem?_cons_zero, List.getElem?_cons_succ] at xx0 xx1 xx2 xx3 xx4 xx5 xx6
  have q0 := hz.cell 0; have r0 := hz.frozen 0
  have q1 := hz.cell 1; have r1 := hz.frozen 1
  have q2 := hz.cell 2; have r2 := hz.frozen 2
  have q3 := hz.cell 3; have r3 := hz.frozen 3
  have q4 := hz.cell 4; have r4 := hz.frozen 4
  have q5 := hz.cell 5; have r5 := hz.frozen 5
  have q6 := hz.cell 6; have r6 := hz.frozen 6
  simp only [List.getElem?_toArray, List.getElem?_cons_zero, List.getElem?_cons_succ] at q0 q1 q2 q3 q4 q5 q6
  go_wp2_with fail
  have hp := put7 hz (.int .u8 0) (.int .i64 0) (.int .i64 0) (.int .i64 0) (.int .i64 0) (.bool false) (.slice none 0 0)
  refine bodyPost_ret (results_cell_tmp_row rfl _ _ n0 29 #[.int .u8 0, .int .i64 0, .int .i64 0, .int .i64 0, .int .i64 0, .bool false, .slice none 0 0] (0, 0) _ rfl hp.1 Try.underlying29 rfl Try.size29) rfl ?_
  rw [← HRR.out]
  exact ⟨_, rfl, msg0 _ _, by rw [← HN0.out]; exact HB0.out.trans hp.2.1⟩

set_option maxHeartbeats 1600000 in
theorem refDecode_bad (w : World) (v : Value) (q : List Nat) (h : Rd w w.heap.size v (bvals q)) (hq : ∀ x ∈ q, x < 256) (hl : q.length ≤ 400) (h2 : 2 ≤ q.length) (hne : sumOf (q.take (q.length - 2)) ≠ tailNum q) : Calls Try.prog 38 #[v] w (RetDec (M0, 3) w) := by
  obtain ⟨i3, hi3, hz30, hz31, hz32⟩ := info_parts Try.info3
  obtain ⟨R, hR⟩ : ∃ R : Msg × Int, (M0, 3) = R := ⟨_, rfl⟩
  rw [hR]
  have HRR := Lib.hid hR; clear hR
  obtain ⟨hr0, hx0, hm0, hb0⟩ := rds_of w
  have HR0 := Lib.hid hr0; have HX0 := Lib.hid hx0; have HM0 := Lib.hid hm0; have HB0 := Lib.hid hb0
  have HV : Hid (Rd (((w.alloc (.cells #[.int .u8 0, .int .i64 0, .int .i64 0, .int .i64 0, .int .i64 0, .bool false, .slice none 0 0] 29)).alloc (.cells #[.int .u8 0, .int .i64 0, .int .i64 0, .int .i64 0, .int .i64 0, .bool false, .slice none 0 0] 29)).alloc (.cells #[.int .u8 0, .int .i64 0, .int .i64 0, .int .i64 0, .int .i64 0, .bool false, .slice none 0 0] 29)) (((w.alloc (.cells #[.int .u8 0, .int .i64 0, .int .i64 0, .int .i64 0, .int .i64 0, .bool false, .slice none 0 0] 29)).alloc (.cells #[.int .u8 0, .int .i64 0, .int .i64 0, .int .i64 0, .int .i64 0, .bool false, .slice none 0 0] 29)).alloc (.cells #[.int .u8 0, .int .i64 0, .int .i64 0, .int .i64 0, .int .i64 0, .bool false, .slice none 0 0] 29)).heap.size v (bvals q)) := h.up hb0
  have HQ := Lib.hid hq
  have H2 := Lib.hid h2; clear h2
  have HH := Lib.hid hne; clear hne
  obtain ⟨n0, hn0⟩ : ∃ n, n = w.heap.size := ⟨_, rfl⟩
  clear h hq hr0 hx0 hm0 hb0
  go_enter Try.func38, Try.ntmps38
  go_upto_region 2 with (fail)
  rw [← hn0] at HR0 HX0 HM0 HB0 ⊢
  have HN0 := Lib.hid hn0; clear hn0
  generalize ((w.alloc (.cells #[.int .u8 0, .int .i64 0, .int .i64 0, .int .i64 0, .int .i64 0, .bool false, .slice none 0 0] 29)).alloc (.cells #[.int .u8 0, .int .i64 0, .int .i64 0, .int .i64 0, .int .i64 0, .bool false, .slice none 0 0] 29)).alloc (.cells #[.int .u8 0, .int .i64 0, .int .i64 0, .int .i64 0, .int .i64 0, .bool false, .slice none 0 0] 29) = W0 at *
  rw [show n0 + 1 + 1 = n0 + 2 from rfl]
  go_wp2_with fail
  refine (refOpen_bad W0 _ v q HV.out (Nat.le_refl _) HQ.out (by omega) H2.out HH.out).mono ?_
  rintro e W1 ⟨rfl, hb1⟩
  have HR1 := Lib.hid (Below.row hb1 HR0.out HR0.out.lt)
  have HX1 := Lib.hid (Below.row hb1 HX0.out HX0.out.lt)
  have HB1 := Lib.hid (HB0.out.trans (hb1.mono (Nat.le_of_lt HR0.out.lt)))
  clear hb1 HR0 HX0 HB0
  have HR0 := HR1; have HX0 := HX1; have HB0 := HB1; clear HR1 HX1 HB1
  have hz := HR0.out
  have hx := HX0.out
  have xx0 := hx.cell 0
  have xx1 := hx.cell 1
  have xx2 := hx.cell 2
  have xx3 := hx.cell 3
  have xx4 := hx.cell 4
  have xx5 := hx.cell 5
  have xx6 := hx.cell 6
  simp only [List.getElem?_toArray, List.getElem?_cons_zero, List.getElem?_cons_succ] at xx0 xx1 xx2 xx3 xx4 xx5 xx6
  have q0 := hz.cell 0; have r0 := hz.frozen 0
  have q1 := hz.cell 1; have r1 := hz.frozen 1
  have q2 := hz.cell 2; have r2 := hz.frozen 2
  have q3 := hz.cell 3; have r3 := hz.frozen 3
  have q4 := hz.cell 4; have r4 := hz.frozen 4
  have q5 := hz.cell 5; have r5 := hz.frozen 5
  have q6 := hz.cell 6; have r6 := hz.frozen 6
  simp only [List.getElem?_toArray, List.getElem?_cons_zero, List.getElem?_cons_succ] at q0 q1 q2 q3 q4 q5 q6
  go_wp2_with fail
  have hp := put7 hz (.int .u8 0) (.int .i64 0) (.int .i64 0) (.int .i64 0) (.int .i64 0) (.bool false) (.slice none 0 0)
  refine bodyPost_ret (results_cell_tmp_row rfl _ _ n0 29 #[.int .u8 0, .int .i64 0, .int .i64 0, .int .i64 0, .int .i64 0, .bool false, .slice none 0 0] (0, 0) _ rfl hp.1 Try.underlying29 rfl Try.size29) rfl ?_
  rw [← HRR.out]
  exact ⟨_, rfl, msg0 _ _, by rw [← HN0.out]; exact HB0.out.trans hp.2.1⟩

set_option maxHeartbeats 1600000 in
theorem refDecode_main (w : World) (v : Value) (q : List Nat) (h : Rd w w.heap.size v (bvals q)) (hq : ∀ x ∈ q, x < 256) (hl : q.length ≤ 400) (h2 : 2 ≤ q.length) (heq : sumOf (q.take (q.length - 2)) = tailNum q) : Calls Try.prog 38 #[v] w (RetDec (decB (q.take (q.length - 2))) w) := by
  obtain ⟨i3, hi3, hz30, hz31, hz32⟩ := info_parts Try.info3
  obtain ⟨R, hR⟩ : ∃ R : Msg × Int, (decB (q.take (q.length - 2))) = R := ⟨_, rfl⟩
  rw [hR]
  have HRR := Lib.hid hR; clear hR
  obtain ⟨hr0, hx0, hm0, hb0⟩ := rds_of w
  have HR0 := Lib.hid hr0; have HX0 := Lib.hid hx0; have HM0 := Lib.hid hm0; have HB0 := Lib.hid hb0
  have HV : Hid (Rd (((w.alloc (.cells #[.int .u8 0, .int .i64 0, .int .i64 0, .int .i64 0, .int .i64 0, .bool false, .slice none 0 0] 29)).alloc (.cells #[.int .u8 0, .int .i64 0, .int .i64 0, .int .i64 0, .int .i64 0, .bool false, .slice none 0 0] 29)).alloc (.cells #[.int .u8 0, .int .i64 0, .int .i64 0, .int .i64 0, .int .i64 0, .bool false, .slice none 0 0] 29)) (((w.alloc (.cells #[.int .u8 0, .int .i64 0, .int .i64 0, .int .i64 0, .int .i64 0, .bool false, .slice none 0 0] 29)).alloc (.cells #[.int .u8 0, .int .i64 0, .int .i64 0, .int .i64 0, .int .i64 0, .bool false, .slice none 0 0] 29)).alloc (.cells #[.int .u8 0, .int .i64 0, .int .i64 0, .int .i64 0, .int .i64 0, .bool false, .slice none 0 0] 29)).heap.size v (bvals q)) := h.up hb0
  have HQ := Lib.hid hq
  have H2 := Lib.hid h2; clear h2
  have HH := Lib.hid heq; clear heq
  obtain ⟨n0, hn0⟩ : ∃ n, n = w.heap.size := ⟨_, rfl⟩
  clear h hq hr0 hx0 hm0 hb0
  go_enter Try.func38, Try.ntmps38
  go_upto_region 2 with (fail)
  rw [← hn0] at HR0 HX0 HM0 HB0 ⊢
  have HN0 := Lib.hid hn0; clear hn0
  generalize ((w.alloc (.cells #[.int .u8 0, .int .i64 0, .int .i64 0, .int .i64 0, .int .i64 0, .bool false, .slice none 0 0] 29)).alloc (.cells #[.int .u8 0, .int .i64 0, .int .i64 0, .int .i64 0, .int .i64 0, .bool false, .slice none 0 0] 29)).alloc (.cells #[.int .u8 0, .int .i64 0, .int .i64 0, .int .i64 0, .int .i64 0, .bool false, .slice none 0 0] 29) = W0 at *
  rw [show n0 + 1 + 1 = n0 + 2 from rfl]
  go_wp2_with fail
  refine (refOpen_ok W0 _ v q HV.out (Nat.le_refl _) HQ.out (by omega) H2.out HH.out).mono ?_
  rintro e W1 ⟨v1, rfl, hr1, hb1⟩
  have HR1 : Hid (Rd W1 W1.heap.size v1 (bvals (q.take (q.length - 2)))) := hr1.mono hb1.size fun _ _ => rfl
  have HOL : Hid ((q.take (q.length - 2)).length ≤ 400) := by show _ ≤ _; rw [List.length_take]; omega
  have HZ1 := Lib.hid (Below.row hb1 HR0.out HR0.out.lt); have HY1 := Lib.hid (Below.row hb1 HX0.out HX0.out.lt); have HM1 := Lib.hid (Below.row hb1 HM0.out HM0.out.lt)
  have HB1 := Lib.hid (HB0.out.trans (hb1.mono (Nat.le_of_lt HR0.out.lt)))
  clear hr1 hb1 HH H2 HR0 HX0 HM0 HB0 HV HQ
  generalize q.take (q.length - 2) = o at *
  go_wp2_with fail
  refine (bitsOf_any W1 v1 o HR1.out (by have := HOL.out; omega)).mono ?_
  rintro e W2 ⟨vb, rfl, hob, hbb⟩
  have HE : Hid (∃ b0, RDS w (W2.alloc (.cells #[vb, .bool false] 77)) n0 b0 W2.heap.size #[.int .u8 0, .int .i64 0, .int .i64 0, .int .i64 0, .int .i64 0, .bool false, .slice none 0 0] (body o)) := by
    have hsz := hbb.size
    have z1 := HZ1.out.lt; have z2 := HY1.out.lt; have z3 := HM1.out.lt
    obtain ⟨b0, h1, h2, h3, h4⟩ := IS.of_own (hob.alloc (.cells #[vb, .bool false] 77)) (Row.new W2 77 #[vb, .bool false]) (by rw [upto_length]; have := HOL.out; omega) (n0 + 1) (by rw [World.size_alloc]; omega)
    refine ⟨b0, (Below.row hbb HZ1.out z1).alloc _, (Below.row hbb HY1.out z2).alloc _, (Below.row hbb HM1.out z3).alloc _, h1, ?_, ?_, h3, (HB1.out.trans (hbb.mono (by omega))).alloc (by omega) _, by omega⟩
    · rcases Nat.lt_or_ge b0 W2.heap.size with c | c
      · omega
      · exact h4 (by omega)
    · omega
  obtain ⟨Ab, cb, hvb⟩ := own_slice hob
  subst hvb
  obtain ⟨Lb, hLb⟩ : ∃ x, (upto o o.length).length = x := ⟨_, rfl⟩
  rw [hLb] at HE ⊢
  clear hLb hob hbb HZ1 HY1 HM1 HB1 HR1
  obtain ⟨b0, hE⟩ := HE.out
  have HE := Lib.hid hE; clear hE
  go_upto_region 6 with (fail)
  generalize W2.alloc (.cells #[.slice Ab Lb cb, .bool false] 77) = W3 at *
  generalize W2.heap.size = g at *
  obtain ⟨s0, hs0⟩ : ∃ s, body o = s := ⟨_, rfl⟩
  rw [hs0] at HE
  have HS0 := Lib.hid hs0; clear hs0
  go_wp2_with fail
  refine (iget_any W3 b0 g s0 3 3 HE.out.is HE.out.bg rfl (by omega) (by omega)).mono ?_
  rintro e W4 ⟨rfl, h1, k1⟩
  have hlt_k := tget_lt 3 (s0)
  obtain ⟨k, hx_k⟩ : ∃ y, (tget 3 (s0)).1 = y := ⟨_, rfl⟩
  obtain ⟨s1, hs_k⟩ : ∃ y, (tget 3 (s0)).2 = y := ⟨_, rfl⟩
  rw [hx_k] at hlt_k ⊢
  rw [hs_k] at h1
  have HX_k : Hid ((tget 3 (s0)).1 = k ∧ (tget 3 (s0)).2 = s1) := ⟨hx_k, hs_k⟩
  have HE1 := Lib.hid (HE.out.get h1 k1)
  have c0 := HE1.out.msg.cell 0; have d0 := HE1.out.msg.frozen 0
  simp only [List.getElem?_toArray, List.getElem?_cons_zero] at c0
  have HE2 : Hid (RDS w (W4.setCell ⟨n0 + 2, 0, none⟩ (.int .u8 (k : Int))) n0 b0 g #[.int .u8 (k : Int), .int .i64 0, .int .i64 0, .int .i64 0, .int .i64 0, .bool false, .slice none 0 0] s1) := HE1.out.set 0 _
  have hk8 : k < 8 := by omega
  have hku : IntKind.u8.wrap (k : Int) = (k : Int) := by rw [IntKind.wrap]; simp [IntKind.bits, IntKind.signed]; omega
  clear h1 k1 hx_k hs_k HE HE1
  go_upto_region 7 with (fail)
  generalize W4.setCell ⟨n0 + 2, 0, none⟩ (.int .u8 (k : Int)) = W5 at *
  have HE := HE2; clear HE2 c0 d0 hku
  obtain ⟨rv, hrow⟩ := HE.out.is.row
  have fl1 := hrow.cell 1
  simp only [List.getElem?_toArray, List.getElem?_cons_zero, List.getElem?_cons_succ] at fl1
  clear hrow
  by_cases hz0 : o.length = 0
  · have hs1 : s1 = none := by rw [← HX_k.out.2, ← HS0.out]; exact get3_none hz0
    subst hs1
    have HZ0 := Lib.hid hz0; clear hz0
    have hz := HE.out.res
    have hx := HE.out.non
    have xx0 := hx.cell 0
    have xx1 := hx.cell 1
    have xx2 := hx.cell 2
    have xx3 := hx.cell 3
    have xx4 := hx.cell 4
    have xx5 := hx.cell 5
    have xx6 := hx.cell 6
    simp only [List.getElem?_toArray, List.getElem?_cons_zero, List.getElem?_cons_succ] at xx0 xx1 xx2 xx3 xx4 xx5 xx6
    have q0 := hz.cell 0; have r0 := hz.frozen 0
    have q1 := hz.cell 1; have r1 := hz.frozen 1
    have q2 := hz.cell 2; have r2 := hz.frozen 2
    have q3 := hz.cell 3; have r3 := hz.frozen 3
    have q4 := hz.cell 4; have r4 := hz.frozen 4
    have q5 := hz.cell 5; have r5 := hz.frozen 5
    have q6 := hz.cell 6; have r6 := hz.frozen 6
    simp only [List.getElem?_toArray, List.getElem?_cons_zero, List.getElem?_cons_succ] at q0 q1 q2 q3 q4 q5 q6
    go_wp2_with fail
    have hp := put7 hz (.int .u8 0) (.int .i64 0) (.int .i64 0) (.int .i64 0) (.int .i64 0) (.bool false) (.slice none 0 0)
    refine bodyPost_ret (results_cell_tmp_row rfl _ _ n0 29 #[.int .u8 0, .int .i64 0, .int .i64 0, .int .i64 0, .int .i64 0, .bool false, .slice none 0 0] (0, 0) _ rfl hp.1 Try.underlying29 rfl Try.size29) rfl ?_
    have hdec : R = (M0, 4) := by rw [← HRR.out]; unfold decB; rw [if_pos HZ0.out]
    rw [hdec]
    exact ⟨_, rfl, msg0 _ _, by rw [← HN0.out]; exact HE.out.below.trans hp.2.1⟩
  obtain ⟨l1, hs1⟩ : ∃ l, s1 = some l := by
    obtain ⟨l, hl⟩ := get3_some hz0
    exact ⟨l, by rw [← HX_k.out.2, ← HS0.out]; exact hl⟩
  have HDB : Hid (decB o = if k < 1 ∨ 6 < k then (M0, 2) else fin (trest k s1)) := by
    show _ = _
    unfold decB
    rw [if_neg hz0, HS0.out, HX_k.out.1, HX_k.out.2]
  rw [show s1.isNone = false from by rw [hs1]; rfl] at fl1
  clear HX_k HS0 hz0 hs1
  have f0 := HE.out.msg.cell 0
  simp only [List.getElem?_toArray, List.getElem?_cons_zero] at f0
  by_cases hk0 : k = 0
  · subst hk0
    have hz := HE.out.res
    have hx := HE.out.non
    have xx0 := hx.cell 0
    have xx1 := hx.cell 1
    have xx2 := hx.cell 2
    have xx3 := hx.cell 3
    have xx4 := hx.cell 4
    have xx5 := hx.cell 5
    have xx6 := hx.cell 6
    simp only [List.getElem?_toArray, List.getElem?_cons_zero, List.getElem?_cons_succ] at xx0 xx1 xx2 xx3 xx4 xx5 xx6
    have q0 := hz.cell 0; have r0 := hz.frozen 0
    have q1 := hz.cell 1; have r1 := hz.frozen 1
    have q2 := hz.cell 2; have r2 := hz.frozen 2
    have q3 := hz.cell 3; have r3 := hz.frozen 3
    have q4 := hz.cell 4; have r4 := hz.frozen 4
    have q5 := hz.cell 5; have r5 := hz.frozen 5
    have q6 := hz.cell 6; have r6 := hz.frozen 6
    simp only [List.getElem?_toArray, List.getElem?_cons_zero, List.getElem?_cons_succ] at q0 q1 q2 q3 q4 q5 q6
    go_wp2_with fail
    have hp := put7 hz (.int .u8 0) (.int .i64 0) (.int .i64 0) (.int .i64 0) (.int .i64 0) (.bool false) (.slice none 0 0)
    refine bodyPost_ret (results_cell_tmp_row rfl _ _ n0 29 #[.int .u8 0, .int .i64 0, .int .i64 0, .int .i64 0, .int .i64 0, .bool false, .slice none 0 0] (0, 0) _ rfl hp.1 Try.underlying29 rfl Try.size29) rfl ?_
    have hdec : R = (M0, 2) := by rw [← HRR.out]; rw [HDB.out, if_pos (by omega)]
    rw [hdec]
    exact ⟨_, rfl, msg0 _ _, by rw [← HN0.out]; exact HE.out.below.trans hp.2.1⟩
  by_cases hk7 : k = 7
  · subst hk7
    have hz := HE.out.res
    have hx := HE.out.non
    have xx0 := hx.cell 0
    have xx1 := hx.cell 1
    have xx2 := hx.cell 2
    have xx3 := hx.cell 3
    have xx4 := hx.cell 4
    have xx5 := hx.cell 5
    have xx6 := hx.cell 6
    simp only [List.getElem?_toArray, List.getElem?_cons_zero, List.getElem?_cons_succ] at xx0 xx1 xx2 xx3 xx4 xx5 xx6
    have q0 := hz.cell 0; have r0 := hz.frozen 0
    have q1 := hz.cell 1; have r1 := hz.frozen 1
    have q2 := hz.cell 2; have r2 := hz.frozen 2
    have q3 := hz.cell 3; have r3 := hz.frozen 3
    have q4 := hz.cell 4; have r4 := hz.frozen 4
    have q5 := hz.cell 5; have r5 := hz.frozen 5
    have q6 := hz.cell 6; have r6 := hz.frozen 6
    simp only [List.getElem?_toArray, List.getElem?_cons_zero, List.getElem?_cons_succ] at q0 q1 q2 q3 q4 q5 q6
    go_wp2_with fail
    have hp := put7 hz (.int .u8 0) (.int .i64 0) (.int .i64 0) (.int .i64 0) (.int .i64 0) (.bool false) (.slice none 0 0)
    refine bodyPost_ret (results_cell_tmp_row rfl _ _ n0 29 #[.int .u8 0, .int .i64 0, .int .i64 0, .int .i64 0, .int .i64 0, .bool false, .slice none 0 0] (0, 0) _ rfl hp.1 Try.underlying29 rfl Try.size29) rfl ?_
    have hdec : R = (M0, 2) := by rw [← HRR.out]; rw [HDB.out, if_pos (by omega)]
    rw [hdec]
    exact ⟨_, rfl, msg0 _ _, by rw [← HN0.out]; exact HE.out.below.trans hp.2.1⟩
  have hk1 : ¬ (k : Int) < 1 := by omega
  have hk6 : ¬ 6 < (k : Int) := by omega
  have HF : Hid (decB o = fin (trest k s1)) := by show _ = _; rw [HDB.out, if_neg (by omega)]
  clear HDB
  go_wp2_with fail
  refine (iget_any W5 b0 g s1 6 6 HE.out.is HE.out.bg rfl (by omega) (by omega)).mono ?_
  rintro e W6 ⟨rfl, h1, k1⟩
  have hlt_x1 := tget_lt 6 (s1)
  obtain ⟨x1, hx_x1⟩ : ∃ y, (tget 6 (s1)).1 = y := ⟨_, rfl⟩
  obtain ⟨s2, hs_x1⟩ : ∃ y, (tget 6 (s1)).2 = y := ⟨_, rfl⟩
  rw [hx_x1] at hlt_x1 ⊢
  rw [hs_x1] at h1
  have HX_x1 : Hid ((tget 6 (s1)).1 = x1 ∧ (tget 6 (s1)).2 = s2) := ⟨hx_x1, hs_x1⟩
  have HE1 := Lib.hid (HE.out.get h1 k1)
  have c1 := HE1.out.msg.cell 1; have d1 := HE1.out.msg.frozen 1
  simp only [List.getElem?_toArray, List.getElem?_cons_zero, List.getElem?_cons_succ] at c1
  have HE2 : Hid (RDS w (W6.setCell ⟨n0 + 2, 1, none⟩ (.int .i64 (x1 : Int))) n0 b0 g #[.int .u8 (k : Int), .int .i64 (x1 : Int), .int .i64 0, .int .i64 0, .int .i64 0, .bool false, .slice none 0 0] s2) := HE1.out.set 1 _
  have hw_x1 : IntKind.i64.wrap (x1 : Int) = (x1 : Int) := i64_small x1 (by omega)
  clear h1 k1 hx_x1 hs_x1 HE HE1
  go_upto_region 12 with (fail)
  generalize W6.setCell ⟨n0 + 2, 1, none⟩ (.int .i64 (x1 : Int)) = W7 at *
  have HE := HE2; clear HE2 c1 d1 hw_x1
  clear hk1 hk6 f0 fl1
  go_wp2_with fail
  refine (iget_any W7 b0 g s2 25 25 HE.out.is HE.out.bg rfl (by omega) (by omega)).mono ?_
  rintro e W8 ⟨rfl, h1, k1⟩
  have hlt_x2 := tget_lt 25 (s2)
  obtain ⟨x2, hx_x2⟩ : ∃ y, (tget 25 (s2)).1 = y := ⟨_, rfl⟩
  obtain ⟨s3, hs_x2⟩ : ∃ y, (tget 25 (s2)).2 = y := ⟨_, rfl⟩
  rw [hx_x2] at hlt_x2 ⊢
  rw [hs_x2] at h1
  have HX_x2 : Hid ((tget 25 (s2)).1 = x2 ∧ (tget 25 (s2)).2 = s3) := ⟨hx_x2, hs_x2⟩
  have HE1 := Lib.hid (HE.out.get h1 k1)
  have c2 := HE1.out.msg.cell 2; have d2 := HE1.out.msg.frozen 2
  simp only [List.getElem?_toArray, List.getElem?_cons_zero, List.getElem?_cons_succ] at c2
  have HE2 : Hid (RDS w (W8.setCell ⟨n0 + 2, 2, none⟩ (.int .i64 (x2 : Int))) n0 b0 g #[.int .u8 (k : Int), .int .i64 (x1 : Int), .int .i64 (x2 : Int), .int .i64 0, .int .i64 0, .bool false, .slice none 0 0] s3) := HE1.out.set 2 _
  have hw_x2 : IntKind.i64.wrap (x2 : Int) = (x2 : Int) := i64_small x2 (by omega)
  clear h1 k1 hx_x2 hs_x2 HE HE1
  go_upto_region 13 with (fail)
  generalize W8.setCell ⟨n0 + 2, 2, none⟩ (.int .i64 (x2 : Int)) = W9 at *
  have HE := HE2; clear HE2 c2 d2 hw_x2
  have HT : Hid (trest k s1 = (⟨k, (x1 : Int), (x2 : Int), (trep k s3).1.1, (trep k s3).1.2.1, (trep k s3).1.2.2, (ttrail k (trep k s3).2).1⟩, (ttrail k (trep k s3).2).2)) := by
    show _ = _
    rw [trest_eq, HX_x1.out.2, HX_x2.out.2, HX_x1.out.1, HX_x2.out.1]
  clear HX_x1 HX_x2
  have f0 := HE.out.msg.cell 0
  simp only [List.getElem?_toArray, List.getElem?_cons_zero] at f0
  by_cases hk3 : k = 3
  · have e3 : ((k : Int) == 3) = true := by simp; omega
    have HK3 := Lib.hid hk3; clear hk3
    go_wp2_with fail
    refine (iget_any W9 b0 g s3 1 1 HE.out.is HE.out.bg rfl (by omega) (by omega)).mono ?_
    rintro e W10 ⟨rfl, h1, k1⟩
    have hlt_y1 := tget_lt 1 (s3)
    obtain ⟨y1, hx_y1⟩ : ∃ y, (tget 1 (s3)).1 = y := ⟨_, rfl⟩
    obtain ⟨s4, hs_y1⟩ : ∃ y, (tget 1 (s3)).2 = y := ⟨_, rfl⟩
    rw [hx_y1] at hlt_y1 ⊢
    rw [hs_y1] at h1
    have HX_y1 : Hid ((tget 1 (s3)).1 = y1 ∧ (tget 1 (s3)).2 = s4) := ⟨hx_y1, hs_y1⟩
    have HE1 := Lib.hid (HE.out.get h1 k1)
    have c3 := HE1.out.msg.cell 3; have d3 := HE1.out.msg.frozen 3
    simp only [List.getElem?_toArray, List.getElem?_cons_zero, List.getElem?_cons_succ] at c3
    have HE2 : Hid (RDS w (W10.setCell ⟨n0 + 2, 3, none⟩ (.int .i64 (y1 : Int))) n0 b0 g #[.int .u8 (k : Int), .int .i64 (x1 : Int), .int .i64 (x2 : Int), .int .i64 (y1 : Int), .int .i64 0, .bool false, .slice none 0 0] s4) := HE1.out.set 3 _
    have hw_y1 : IntKind.i64.wrap (y1 : Int) = (y1 : Int) := i64_small y1 (by omega)
    clear h1 k1 hx_y1 hs_y1 HE HE1
    go_upto_region 15 with (fail)
    generalize W10.setCell ⟨n0 + 2, 3, none⟩ (.int .i64 (y1 : Int)) = W11 at *
    have HE := HE2; clear HE2 c3 d3 hw_y1
    clear f0
    go_wp2_with fail
    refine (iget_any W11 b0 g s4 14 14 HE.out.is HE.out.bg rfl (by omega) (by omega)).mono ?_
    rintro e W12 ⟨rfl, h1, k1⟩
    have hlt_y2 := tget_lt 14 (s4)
    obtain ⟨y2, hx_y2⟩ : ∃ y, (tget 14 (s4)).1 = y := ⟨_, rfl⟩
    obtain ⟨s5, hs_y2⟩ : ∃ y, (tget 14 (s4)).2 = y := ⟨_, rfl⟩
    rw [hx_y2] at hlt_y2 ⊢
    rw [hs_y2] at h1
    have HX_y2 : Hid ((tget 14 (s4)).1 = y2 ∧ (tget 14 (s4)).2 = s5) := ⟨hx_y2, hs_y2⟩
    have HE1 := Lib.hid (HE.out.get h1 k1)
    have c4 := HE1.out.msg.cell 4; have d4 := HE1.out.msg.frozen 4
    simp only [List.getElem?_toArray, List.getElem?_cons_zero, List.getElem?_cons_succ] at c4
    have HE2 : Hid (RDS w (W12.setCell ⟨n0 + 2, 4, none⟩ (.int .i64 (y2 : Int))) n0 b0 g #[.int .u8 (k : Int), .int .i64 (x1 : Int), .int .i64 (x2 : Int), .int .i64 (y1 : Int), .int .i64 (y2 : Int), .bool false, .slice none 0 0] s5) := HE1.out.set 4 _
    have hw_y2 : IntKind.i64.wrap (y2 : Int) = (y2 : Int) := i64_small y2 (by omega)
    clear h1 k1 hx_y2 hs_y2 HE HE1
    go_upto_region 16 with (fail)
    generalize W12.setCell ⟨n0 + 2, 4, none⟩ (.int .i64 (y2 : Int)) = W13 at *
    have HE := HE2; clear HE2 c4 d4 hw_y2
    go_wp2_with fail
    refine (iget_any W13 b0 g s5 1 1 HE.out.is HE.out.bg rfl (by omega) (by omega)).mono ?_
    rintro e W14 ⟨rfl, h1, k1⟩
    have hlt_z3 := tget_lt 1 (s5)
    obtain ⟨z3, hx_z3⟩ : ∃ y, (tget 1 (s5)).1 = y := ⟨_, rfl⟩
    obtain ⟨s, hs_z3⟩ : ∃ y, (tget 1 (s5)).2 = y := ⟨_, rfl⟩
    rw [hx_z3] at hlt_z3 ⊢
    rw [hs_z3] at h1
    have HX_z3 : Hid ((tget 1 (s5)).1 = z3 ∧ (tget 1 (s5)).2 = s) := ⟨hx_z3, hs_z3⟩
    have HE1 := Lib.hid (HE.out.get h1 k1)
    have c5 := HE1.out.msg.cell 5; have d5 := HE1.out.msg.frozen 5
    simp only [List.getElem?_toArray, List.getElem?_cons_zero, List.getElem?_cons_succ] at c5
    obtain ⟨y3, hy3⟩ : ∃ b, ((z3 : Int) == 1) = b := ⟨_, rfl⟩
    have HE2 : Hid (RDS w (W14.setCell ⟨n0 + 2, 5, none⟩ (.bool y3)) n0 b0 g #[.int .u8 (k : Int), .int .i64 (x1 : Int), .int .i64 (x2 : Int), .int .i64 (y1 : Int), .int .i64 (y2 : Int), .bool y3, .slice none 0 0] s) := HE1.out.set 5 _
    have hw_z3 : IntKind.i64.wrap (z3 : Int) = (z3 : Int) := i64_small z3 (by omega)
    clear h1 k1 hx_z3 hs_z3 HE HE1
    go_upto_region 17 with (fail)
    generalize W14.setCell ⟨n0 + 2, 5, none⟩ (.bool y3) = W15 at *
    have HE := HE2; clear HE2 c5 d5 hw_z3
    have HTR : Hid (trep k s3 = (((y1 : Int), (y2 : Int), y3), s)) := by
      show _ = _
      have h1 : decide ((tget 1 s5).1 = 1) = y3 := by rw [HX_z3.out.1, ← hy3]; by_cases c : z3 = 1 <;> simp [c] <;> omega
      rw [HK3.out, trep_yes, HX_y1.out.1, HX_y1.out.2, HX_y2.out.1, HX_y2.out.2, h1, HX_z3.out.2]
    clear HX_y1 HX_y2 HX_z3 hy3
    have f0 := HE.out.msg.cell 0
    simp only [List.getElem?_toArray, List.getElem?_cons_zero] at f0
    have hc : hasT k = true := by rw [HK3.out]; rfl
    have HTT : Hid (trest k s1 = (⟨k, (x1 : Int), (x2 : Int), (y1 : Int), (y2 : Int), y3, (tmany tone (tget 4 s).1 (tget 4 s).2).1⟩, (tmany tone (tget 4 s).1 (tget 4 s).2).2)) := by show _ = _; rw [HT.out, HTR.out, ttrail_yes hc]
    clear HT HTR hc
    go_wp2_with fail
    refine (iget_any W15 b0 g s 4 4 HE.out.is HE.out.bg rfl (by omega) (by omega)).mono ?_
    rintro e V1 ⟨rfl, h1, k1⟩
    have hlt_n := tget_lt 4 s
    obtain ⟨n, hx_n⟩ : ∃ y, (tget 4 s).1 = y := ⟨_, rfl⟩
    obtain ⟨r, hs_n⟩ : ∃ y, (tget 4 s).2 = y := ⟨_, rfl⟩
    rw [hx_n, hs_n] at HTT
    rw [hx_n] at hlt_n ⊢
    rw [hs_n] at h1
    have HE1 := Lib.hid (HE.out.get h1 k1)
    clear h1 k1 hx_n hs_n HE
    have hn16 : n < 16 := by omega
    clear hlt_n
    have hwn : IntKind.i64.wrap (n : Int) = (n : Int) := i64_small n (by omega)
    have HSZ : Hid (n0 + 2 < V1.heap.size ∧ n0 ≤ V1.heap.size ∧ b0 < V1.heap.size) := ⟨HE1.out.msg.lt, Nat.le_of_lt HE1.out.res.lt, HE1.out.bs⟩
    go_wp2_with fail
    clear hwn
    go_loopw [10] (fun c wr => ∃ i : Nat, i ≤ n ∧ c = .int .i64 (i : Int) ∧ Hid (∃ vt, RDS w wr n0 b0 g #[.int .u8 (k : Int), .int .i64 (x1 : Int), .int .i64 (x2 : Int), .int .i64 (y1 : Int), .int .i64 (y2 : Int), .bool y3, vt] (tmany tone i r).2 ∧ wr.ownsRow V1.heap.size 3 1 vt i (ivals (tmany tone i r).1) ∧ V1.heap.size ≤ wr.heap.size)) (fun c _ => n - (intOf c).toNat)
    case atStart => exact ⟨0, Nat.zero_le _, rfl, .slice none 0 0, HE1.out, World.ownsRow_nil _ _ _ _, Nat.le_refl _⟩
    case round =>
      obtain ⟨i, hi, rfl, HI⟩ := hrel
      obtain ⟨vt, hds, hown, hsz⟩ := HI.out
      obtain ⟨At, ct, hvt⟩ := own_slice hown
      subst hvt
      have HE := Lib.hid hds; have HO := Lib.hid hown; have HWZ := Lib.hid hsz
      clear hds hown hsz HI
      by_cases hlt : i < n
      · go_upto_region 22 with (fail)
        have d1 := HE.out.msg.cell 6
        simp only [List.getElem?_toArray, List.getElem?_cons_zero, List.getElem?_cons_succ] at d1
        refine AnyBut.region (fun w' => w'.cell? ⟨n0 + 2, 6, none⟩ = some (.slice At i ct)) 8 (by kernel_rfl) ?_
        refine AnyBut.take 0 rfl (by kernel_rfl) (by kernel_rfl) (by kernel_rfl) (by kernel_rfl) (by decide) (fun _ _ _ h => h) (yields_of (by rfl) (fun w9 hS => (by have s1 := hS; go_simp; try rfl))) d1 ?_
        refine AnyBut.take 1 rfl (by kernel_rfl) (by kernel_rfl) (by kernel_rfl) (by kernel_rfl) (by decide) (fun _ _ _ h => h) (yields_of (by rfl) (fun w9 hS => (by have s1 := hS; go_simp; try rfl))) d1 ?_
        refine AnyBut.take 2 rfl (by kernel_rfl) (by kernel_rfl) (by kernel_rfl) (by kernel_rfl) (by decide) (fun _ _ _ h => h) (yields_of (by rfl) (fun w9 hS => (by have s1 := hS; go_simp; try rfl))) d1 ?_
        refine AnyBut.one 3 rfl (by kernel_rfl) (by rfl) ?_
        go_simp
        have HED : Hid (RDS w wr.drew n0 b0 g #[.int .u8 (k : Int), .int .i64 (x1 : Int), .int .i64 (x2 : Int), .int .i64 (y1 : Int), .int .i64 (y2 : Int), .bool y3, .slice At i ct] (tmany tone i r).2) := HE.out.drewN 1
        have HOD : Hid (wr.drew.ownsRow V1.heap.size 3 1 (.slice At i ct) i (ivals (tmany tone i r).1)) := HO.out
        have HWD : Hid (V1.heap.size ≤ wr.drew.heap.size) := HWZ.out
        clear HE HO HWZ d1
        generalize wr.drew = wd at *
        refine (iget_any wd b0 g (tmany tone i r).2 6 6 HED.out.is HED.out.bg rfl (by omega) (by omega)).mono ?_
        rintro e w1 ⟨rfl, h1, k1⟩
        have hlt_y := tget_lt 6 (tmany tone i r).2
        obtain ⟨y, hx_y⟩ : ∃ y, (tget 6 (tmany tone i r).2).1 = y := ⟨_, rfl⟩
        rw [hx_y] at hlt_y ⊢
        obtain ⟨cg, hg⟩ := HED.out.is.row
        have HE7 := Lib.hid (HED.out.get h1 k1)
        have HO7 := Lib.hid (own_keptL HOD.out k1 (Other.one hg (by decide)))
        have HW7 : Hid (V1.heap.size ≤ w1.heap.size) := Nat.le_trans HWD.out k1.size
        have HSN : Hid (ivals (tmany tone i r).1 ++ [.int .i64 (y : Int)] = ivals (tmany tone (i + 1) r).1 ∧ (tget 6 (tmany tone i r).2).2 = (tmany tone (i + 1) r).2) := by
          refine ⟨?_, rfl⟩
          rw [many_one, hx_y, ivals_snoc]
        have hwy : IntKind.i64.wrap (y : Int) = (y : Int) := i64_small y (by omega)
        clear h1 k1 hg hx_y hlt_y HED HOD HWD
        rw [HSN.out.2] at HE7
        have u1 := HE7.out.msg.cell 6
        simp only [List.getElem?_toArray, List.getElem?_cons_zero, List.getElem?_cons_succ] at u1
        refine ⟨u1, ?_⟩
        refine AnyBut.one 4 rfl (by kernel_rfl) (by rfl) ?_
        go_simp
        refine AnyBut.one 5 rfl (by kernel_rfl) (by rfl) ?_
        go_simp
        refine ⟨cell_alloc u1, ?_⟩
        have hbA := (Below.refl w1.heap.size w1).alloc (Nat.le_refl _) (.cells #[.int .i64 (y : Int)] 3)
        have HE8 : Hid (RDS w (w1.alloc (.cells #[.int .i64 (y : Int)] 3)) n0 b0 g #[.int .u8 (k : Int), .int .i64 (x1 : Int), .int .i64 (x2 : Int), .int .i64 (y1 : Int), .int .i64 (y2 : Int), .bool y3, .slice At i ct] (tmany tone (i + 1) r).2) := HE7.out.get (HE7.out.is.fresh hbA) (KeptL.of_below hbA)
        have HO8 := Lib.hid (HO7.out.alloc (.cells #[.int .i64 (y : Int)] 3))
        have HW8 : Hid (V1.heap.size ≤ (w1.alloc (.cells #[.int .i64 (y : Int)] 3)).heap.size) := Nat.le_trans HW7.out hbA.size
        have HN8 : Hid (∀ (j : Nat) (u : Value), [.int .i64 (y : Int)][j]? = some u → (w1.alloc (.cells #[.int .i64 (y : Int)] 3)).cell? ((⟨w1.heap.size, 0, none⟩ : Addr).add j) = some u) := row_new w1 3 [.int .i64 (y : Int)]
        generalize w1.alloc (.cells #[.int .i64 (y : Int)] 3) = wB at *
        generalize w1.heap.size = gA at *
        clear u1 HE7 HO7 HW7 hbA hwy
        refine AnyBut.one 6 rfl (by kernel_rfl) (by rfl) ?_
        refine wp_append_lies wB (.tmp 82) (.tmp 86) 27 rfl V1.heap.size 3 i3 (.int .i64 0) 1 8 Try.underlying27 hi3 hz30 hz31 hz32 rfl (by decide) (.slice At i ct) i _ (by rfl) HO8.out ⟨gA, 0, none⟩ 1 1 [.int .i64 (y : Int)] (by rfl) rfl HN8.out (by intro u hu; simp at hu; subst hu; rfl) (by decide) (by unfold maxLen; omega) (by omega) HW8.out wB.heap.size rfl ?_
        intro g5 c5 w5 hown5 hgrow5 _ _
        rw [HSN.out.1] at hown5
        have hrb : ∀ k, (Value.slice At i ct).ownBlock = some k → V1.heap.size ≤ k := fun k hk => (HO8.out.lt k hk).1
        obtain ⟨cg, hg⟩ := HE8.out.is.row
        have hgr := KeptL.of_grown hgrow5
        have hnd : ∀ k, k < V1.heap.size → k ∉ (Value.slice At i ct).ownBlock.toList := fun k hk hm => by
          have := hrb k (by simpa using hm)
          omega
        have hoth : ∀ t, t ≠ 3 → Other wB t (Value.slice At i ct).ownBlock.toList := own_other HO8.out
        have hSZ := HSZ.out
        have e9 : RDS w w5 n0 b0 g #[.int .u8 (k : Int), .int .i64 (x1 : Int), .int .i64 (x2 : Int), .int .i64 (y1 : Int), .int .i64 (y2 : Int), .bool y3, .slice At i ct] (tmany tone (i + 1) r).2 :=
          ⟨hgr.row HE8.out.res (hnd _ (by omega)), hgr.row HE8.out.non (hnd _ (by omega)), hgr.row HE8.out.msg (hnd _ hSZ.1), HE8.out.is.keptL hgr ((hoth 77 (by decide)).ne hg) (hnd _ hSZ.2.2), HE8.out.bg, HE8.out.b2, Nat.lt_of_lt_of_le HE8.out.bs hgr.size,
            HE8.out.below.grown hgrow5 (Nat.le_of_lt HE8.out.res.lt) (fun k hk => Nat.le_trans hSZ.2.1 (hrb k hk)), HE8.out.gn⟩
        have hsz9 : V1.heap.size ≤ w5.heap.size := Nat.le_trans HW8.out hgr.size
        have u1 := e9.msg.cell 6; have z9 := e9.msg.frozen 6
        simp only [List.getElem?_toArray, List.getElem?_cons_zero, List.getElem?_cons_succ] at u1
        refine ⟨fun _ => u1, ?_⟩
        have HNX : Hid (∃ vt, RDS w (w5.setCell ⟨n0 + 2, 6, none⟩ (.slice (some ⟨g5, 0, none⟩) (i + 1) c5)) n0 b0 g #[.int .u8 (k : Int), .int .i64 (x1 : Int), .int .i64 (x2 : Int), .int .i64 (y1 : Int), .int .i64 (y2 : Int), .bool y3, vt] (tmany tone (i + 1) r).2 ∧ (w5.setCell ⟨n0 + 2, 6, none⟩ (.slice (some ⟨g5, 0, none⟩) (i + 1) c5)).ownsRow V1.heap.size 3 1 vt (i + 1) (ivals (tmany tone (i + 1) r).1) ∧ V1.heap.size ≤ (w5.setCell ⟨n0 + 2, 6, none⟩ (.slice (some ⟨g5, 0, none⟩) (i + 1) c5)).heap.size) :=
          ⟨_, e9.set 6 _, own_far (a := ⟨n0 + 2, 6, none⟩) hown5 (fun e => by have h1 := (hown5.lt (n0 + 2) e).1; omega) _, by simpa [World.setCell] using hsz9⟩
        clear hown5 hgrow5 hrb e9 hgr hnd hoth hg hsz9 hSZ
        refine AnyBut.one 7 rfl (by kernel_rfl) (by rfl) ?_
        go_simp
        refine AnyBut.one 8 rfl (by kernel_rfl) (by rfl) ?_
        go_simp
        refine AnyBut.done (by kernel_rfl) ?_
        clear u1 z9
        go_wp2_with fail
        go_roundw
        case rel => exact ⟨i + 1, by omega, by go_num, HNX⟩
        case measure => simp [intOf]; omega
      · have HIN : Hid (i = n) := by show _ = _; omega
        have HIS : Hid (tmany tone i r = tmany tone n r) := by show _ = _; rw [HIN.out]
        rw [HIS.out] at HE HO
        obtain ⟨sf, hsf⟩ : ∃ y, (tmany tone n r).2 = y := ⟨_, rfl⟩
        obtain ⟨lf, hlf⟩ : ∃ y, (tmany tone n r).1 = y := ⟨_, rfl⟩
        rw [hsf] at HE HTT
        rw [hlf] at HO HTT
        clear HIS hsf hlf
        obtain ⟨rv, hrow⟩ := HE.out.is.row
        have fl1 := hrow.cell 1
        simp only [List.getElem?_toArray, List.getElem?_cons_zero, List.getElem?_cons_succ] at fl1
        clear hrow
        cases sf with
        | none =>
          rw [show (none : St).isNone = true from rfl] at fl1
          have hz := HE.out.res
          have hx := HE.out.non
          have xx0 := hx.cell 0
          have xx1 := hx.cell 1
          have xx2 := hx.cell 2
          have xx3 := hx.cell 3
          have xx4 := hx.cell 4
          have xx5 := hx.cell 5
          have xx6 := hx.cell 6
          simp only [List.getElem?_toArray, List.getElem?_cons_zero, List.getElem?_cons_succ] at xx0 xx1 xx2 xx3 xx4 xx5 xx6
          have q0 := hz.cell 0; have r0 := hz.frozen 0
          have q1 := hz.cell 1; have r1 := hz.frozen 1
          have q2 := hz.cell 2; have r2 := hz.frozen 2
          have q3 := hz.cell 3; have r3 := hz.frozen 3
          have q4 := hz.cell 4; have r4 := hz.frozen 4
          have q5 := hz.cell 5; have r5 := hz.frozen 5
          have q6 := hz.cell 6; have r6 := hz.frozen 6
          simp only [List.getElem?_toArray, List.getElem?_cons_zero, List.getElem?_cons_succ] at q0 q1 q2 q3 q4 q5 q6
          go_wp2_with fail
          have hp := put7 hz (.int .u8 0) (.int .i64 0) (.int .i64 0) (.int .i64 0) (.int .i64 0) (.bool false) (.slice none 0 0)
          refine bodyPost_ret (results_cell_tmp_row rfl _ _ n0 29 #[.int .u8 0, .int .i64 0, .int .i64 0, .int .i64 0, .int .i64 0, .bool false, .slice none 0 0] (0, 0) _ rfl hp.1 Try.underlying29 rfl Try.size29) rfl ?_
          have hdec : R = (M0, 4) := by rw [← HRR.out]; rw [HF.out]; exact fin_none (by rw [HTT.out])
          rw [hdec]
          exact ⟨_, rfl, msg0 _ _, by rw [← HN0.out]; exact HE.out.below.trans hp.2.1⟩
        | some l1 =>
          rw [show (some l1 : St).isNone = false from rfl] at fl1
          go_wp2_with fail
          refine (iend_any wr b0 g l1 HE.out.is).mono ?_
          rintro e w' ⟨rfl, rfl⟩
          clear fl1
          cases he : endB l1 with
          | false =>
            have hz := HE.out.res
            have hx := HE.out.non
            have xx0 := hx.cell 0
            have xx1 := hx.cell 1
            have xx2 := hx.cell 2
            have xx3 := hx.cell 3
            have xx4 := hx.cell 4
            have xx5 := hx.cell 5
            have xx6 := hx.cell 6
            simp only [List.getElem?_toArray, List.getElem?_cons_zero, List.getElem?_cons_succ] at xx0 xx1 xx2 xx3 xx4 xx5 xx6
            have q0 := hz.cell 0; have r0 := hz.frozen 0
            have q1 := hz.cell 1; have r1 := hz.frozen 1
            have q2 := hz.cell 2; have r2 := hz.frozen 2
            have q3 := hz.cell 3; have r3 := hz.frozen 3
            have q4 := hz.cell 4; have r4 := hz.frozen 4
            have q5 := hz.cell 5; have r5 := hz.frozen 5
            have q6 := hz.cell 6; have r6 := hz.frozen 6
            simp only [List.getElem?_toArray, List.getElem?_cons_zero, List.getElem?_cons_succ] at q0 q1 q2 q3 q4 q5 q6
            go_wp2_with fail
            have hp := put7 hz (.int .u8 0) (.int .i64 0) (.int .i64 0) (.int .i64 0) (.int .i64 0) (.bool false) (.slice none 0 0)
            refine bodyPost_ret (results_cell_tmp_row rfl _ _ n0 29 #[.int .u8 0, .int .i64 0, .int .i64 0, .int .i64 0, .int .i64 0, .bool false, .slice none 0 0] (0, 0) _ rfl hp.1 Try.underlying29 rfl Try.size29) rfl ?_
            have hdec : R = (M0, 2) := by rw [← HRR.out]; rw [HF.out]; exact fin_bad (by rw [HTT.out]) he
            rw [hdec]
            exact ⟨_, rfl, msg0 _ _, by rw [← HN0.out]; exact HE.out.below.trans hp.2.1⟩
          | true =>
            have hz := HE.out.res
            have hx := HE.out.non
            have xx0 := hx.cell 0
            have xx1 := hx.cell 1
            have xx2 := hx.cell 2
            have xx3 := hx.cell 3
            have xx4 := hx.cell 4
            have xx5 := hx.cell 5
            have xx6 := hx.cell 6
            simp only [List.getElem?_toArray, List.getElem?_cons_zero, List.getElem?_cons_succ] at xx0 xx1 xx2 xx3 xx4 xx5 xx6
            have q0 := hz.cell 0; have r0 := hz.frozen 0
            have q1 := hz.cell 1; have r1 := hz.frozen 1
            have q2 := hz.cell 2; have r2 := hz.frozen 2
            have q3 := hz.cell 3; have r3 := hz.frozen 3
            have q4 := hz.cell 4; have r4 := hz.frozen 4
            have q5 := hz.cell 5; have r5 := hz.frozen 5
            have q6 := hz.cell 6; have r6 := hz.frozen 6
            simp only [List.getElem?_toArray, List.getElem?_cons_zero, List.getElem?_cons_succ] at q0 q1 q2 q3 q4 q5 q6
            have hy := HE.out.msg
            have yy0 := hy.cell 0
            have yy1 := hy.cell 1
            have yy2 := hy.cell 2
            have yy3 := hy.cell 3
            have yy4 := hy.cell 4
            have yy5 := hy.cell 5
            have yy6 := hy.cell 6
            simp only [List.getElem?_toArray, List.getElem?_cons_zero, List.getElem?_cons_succ] at yy0 yy1 yy2 yy3 yy4 yy5 yy6
            go_wp2_with fail
            have hp := put7 hz (.int .u8 (k : Int)) (.int .i64 (x1 : Int)) (.int .i64 (x2 : Int)) (.int .i64 (y1 : Int)) (.int .i64 (y2 : Int)) (.bool y3) (.slice At i ct)
            refine bodyPost_ret (results_cell_tmp_row rfl _ _ n0 29 #[.int .u8 (k : Int), .int .i64 (x1 : Int), .int .i64 (x2 : Int), .int .i64 (y1 : Int), .int .i64 (y2 : Int), .bool y3, .slice At i ct] (0, 0) _ rfl hp.1 Try.underlying29 rfl Try.size29) rfl ?_
            have hdec : R = (⟨k, (x1 : Int), (x2 : Int), (y1 : Int), (y2 : Int), y3, lf⟩, 0) := by rw [← HRR.out, HF.out, fin_ok (l := l1) (by rw [HTT.out]) he, HTT.out]
            rw [hdec]
            exact ⟨_, rfl, ⟨_, rfl, Rd.of_own (own_keptL HO.out hp.2.2 (Other.one hz (by decide)))⟩, by rw [← HN0.out]; exact HE.out.below.trans hp.2.1⟩
  · have e3 : ((k : Int) == 3) = false := by simp; omega
    have HTR : Hid (trep k s3 = (((0 : Int), (0 : Int), false), s3)) := trep_no hk3 s3
    obtain ⟨s, hs⟩ : ∃ s, s = s3 := ⟨_, rfl⟩
    rw [← hs] at HE
    have HTR2 : Hid (trep k s3 = (((0 : Int), (0 : Int), false), s)) := by rw [hs]; exact HTR.out
    clear HTR hs
    have HTR := HTR2; clear HTR2
    by_cases hk6 : k = 6
    · have hc : hasT k = true := by rw [hk6]; rfl
      have e6 : ((k : Int) == 6) = true := by simp; omega
      have HK6 := Lib.hid hk6; clear hk6
      have HTT : Hid (trest k s1 = (⟨k, (x1 : Int), (x2 : Int), (0 : Int), (0 : Int), false, (tmany tone (tget 4 s).1 (tget 4 s).2).1⟩, (tmany tone (tget 4 s).1 (tget 4 s).2).2)) := by show _ = _; rw [HT.out, HTR.out, ttrail_yes hc]
      clear HT HTR hc
      go_wp2_with fail
      refine (iget_any W9 b0 g s 4 4 HE.out.is HE.out.bg rfl (by omega) (by omega)).mono ?_
      rintro e V1 ⟨rfl, h1, k1⟩
      have hlt_n := tget_lt 4 s
      obtain ⟨n, hx_n⟩ : ∃ y, (tget 4 s).1 = y := ⟨_, rfl⟩
      obtain ⟨r, hs_n⟩ : ∃ y, (tget 4 s).2 = y := ⟨_, rfl⟩
      rw [hx_n, hs_n] at HTT
      rw [hx_n] at hlt_n ⊢
      rw [hs_n] at h1
      have HE1 := Lib.hid (HE.out.get h1 k1)
      clear h1 k1 hx_n hs_n HE
      have hn16 : n < 16 := by omega
      clear hlt_n
      have hwn : IntKind.i64.wrap (n : Int) = (n : Int) := i64_small n (by omega)
      have HSZ : Hid (n0 + 2 < V1.heap.size ∧ n0 ≤ V1.heap.size ∧ b0 < V1.heap.size) := ⟨HE1.out.msg.lt, Nat.le_of_lt HE1.out.res.lt, HE1.out.bs⟩
      go_wp2_with fail
      clear hwn
      go_loopw [10] (fun c wr => ∃ i : Nat, i ≤ n ∧ c = .int .i64 (i : Int) ∧ Hid (∃ vt, RDS w wr n0 b0 g #[.int .u8 (k : Int), .int .i64 (x1 : Int), .int .i64 (x2 : Int), .int .i64 0, .int .i64 0, .bool false, vt] (tmany tone i r).2 ∧ wr.ownsRow V1.heap.size 3 1 vt i (ivals (tmany tone i r).1) ∧ V1.heap.size ≤ wr.heap.size)) (fun c _ => n - (intOf c).toNat)
      case atStart => exact ⟨0, Nat.zero_le _, rfl, .slice none 0 0, HE1.out, World.ownsRow_nil _ _ _ _, Nat.le_refl _⟩
      case round =>
        obtain ⟨i, hi, rfl, HI⟩ := hrel
        obtain ⟨vt, hds, hown, hsz⟩ := HI.out
        obtain ⟨At, ct, hvt⟩ := own_slice hown
        subst hvt
        have HE := Lib.hid hds; have HO := Lib.hid hown; have HWZ := Lib.hid hsz
        clear hds hown hsz HI
        by_cases hlt : i < n
        · go_upto_region 22 with (fail)
          have d1 := HE.out.msg.cell 6
          simp only [List.getElem?_toArray, List.getElem?_cons_zero, List.getElem?_cons_succ] at d1
          refine AnyBut.region (fun w' => w'.cell? ⟨n0 + 2, 6, none⟩ = some (.slice At i ct)) 8 (by kernel_rfl) ?_
          refine AnyBut.take 0 rfl (by kernel_rfl) (by kernel_rfl) (by kernel_rfl) (by kernel_rfl) (by decide) (fun _ _ _ h => h) (yields_of (by rfl) (fun w9 hS => (by have s1 := hS; go_simp; try rfl))) d1 ?_
          refine AnyBut.take 1 rfl (by kernel_rfl) (by kernel_rfl) (by kernel_rfl) (by kernel_rfl) (by decide) (fun _ _ _ h => h) (yields_of (by rfl) (fun w9 hS => (by have s1 := hS; go_simp; try rfl))) d1 ?_
          refine AnyBut.take 2 rfl (by kernel_rfl) (by kernel_rfl) (by kernel_rfl) (by kernel_rfl) (by decide) (fun _ _ _ h => h) (yields_of (by rfl) (fun w9 hS => (by have s1 := hS; go_simp; try rfl))) d1 ?_
          refine AnyBut.one 3 rfl (by kernel_rfl) (by rfl) ?_
          go_simp
          have HED : Hid (RDS w wr.drew n0 b0 g #[.int .u8 (k : Int), .int .i64 (x1 : Int), .int .i64 (x2 : Int), .int .i64 0, .int .i64 0, .bool false, .slice At i ct] (tmany tone i r).2) := HE.out.drewN 1
          have HOD : Hid (wr.drew.ownsRow V1.heap.size 3 1 (.slice At i ct) i (ivals (tmany tone i r).1)) := HO.out
          have HWD : Hid (V1.heap.size ≤ wr.drew.heap.size) := HWZ.out
          clear HE HO HWZ d1
          generalize wr.drew = wd at *
          refine (iget_any wd b0 g (tmany tone i r).2 6 6 HED.out.is HED.out.bg rfl (by omega) (by omega)).mono ?_
          rintro e w1 ⟨rfl, h1, k1⟩
          have hlt_y := tget_lt 6 (tmany tone i r).2
          obtain ⟨y, hx_y⟩ : ∃ y, (tget 6 (tmany tone i r).2).1 = y := ⟨_, rfl⟩
          rw [hx_y] at hlt_y ⊢
          obtain ⟨cg, hg⟩ := HED.out.is.row
          have HE7 := Lib.hid (HED.out.get h1 k1)
          have HO7 := Lib.hid (own_keptL HOD.out k1 (Other.one hg (by decide)))
          have HW7 : Hid (V1.heap.size ≤ w1.heap.size) := Nat.le_trans HWD.out k1.size
          have HSN : Hid (ivals (tmany tone i r).1 ++ [.int .i64 (y : Int)] = ivals (tmany tone (i + 1) r).1 ∧ (tget 6 (tmany tone i r).2).2 = (tmany tone (i + 1) r).2) := by
            refine ⟨?_, rfl⟩
            rw [many_one, hx_y, ivals_snoc]
          have hwy : IntKind.i64.wrap (y : Int) = (y : Int) := i64_small y (by omega)
          clear h1 k1 hg hx_y hlt_y HED HOD HWD
          rw [HSN.out.2] at HE7
          have u1 := HE7.out.msg.cell 6
          simp only [List.getElem?_toArray, List.getElem?_cons_zero, List.getElem?_cons_succ] at u1
          refine ⟨u1, ?_⟩
          refine AnyBut.one 4 rfl (by kernel_rfl) (by rfl) ?_
          go_simp
          refine AnyBut.one 5 rfl (by kernel_rfl) (by rfl) ?_
          go_simp
          refine ⟨cell_alloc u1, ?_⟩
          have hbA := (Below.refl w1.heap.size w1).alloc (Nat.le_refl _) (.cells #[.int .i64 (y : Int)] 3)
          have HE8 : Hid (RDS w (w1.alloc (.cells #[.int .i64 (y : Int)] 3)) n0 b0 g #[.int .u8 (k : Int), .int .i64 (x1 : Int), .int .i64 (x2 : Int), .int .i64 0, .int .i64 0, .bool false, .slice At i ct] (tmany tone (i + 1) r).2) := HE7.out.get (HE7.out.is.fresh hbA) (KeptL.of_below hbA)
          have HO8 := Lib.hid (HO7.out.alloc (.cells #[.int .i64 (y : Int)] 3))
          have HW8 : Hid (V1.heap.size ≤ (w1.alloc (.cells #[.int .i64 (y : Int)] 3)).heap.size) := Nat.le_trans HW7.out hbA.size
          have HN8 : Hid (∀ (j : Nat) (u : Value), [.int .i64 (y : Int)][j]? = some u → (w1.alloc (.cells #[.int .i64 (y : Int)] 3)).cell? ((⟨w1.heap.size, 0, none⟩ : Addr).add j) = some u) := row_new w1 3 [.int .i64 (y : Int)]
          generalize w1.alloc (.cells #[.int .i64 (y : Int)] 3) = wB at *
          generalize w1.heap.size = gA at *
          clear u1 HE7 HO7 HW7 hbA hwy
          refine AnyBut.one 6 rfl (by kernel_rfl) (by rfl) ?_
          refine wp_append_lies wB (.tmp 82) (.tmp 86) 27 rfl V1.heap.size 3 i3 (.int .i64 0) 1 8 Try.underlying27 hi3 hz30 hz31 hz32 rfl (by decide) (.slice At i ct) i _ (by rfl) HO8.out ⟨gA, 0, none⟩ 1 1 [.int .i64 (y : Int)] (by rfl) rfl HN8.out (by intro u hu; simp at hu; subst hu; rfl) (by decide) (by unfold maxLen; omega) (by omega) HW8.out wB.heap.size rfl ?_
          intro g5 c5 w5 hown5 hgrow5 _ _
          rw [HSN.out.1] at hown5
          have hrb : ∀ k, (Value.slice At i ct).ownBlock = some k → V1.heap.size ≤ k := fun k hk => (HO8.out.lt k hk).1
          obtain ⟨cg, hg⟩ := HE8.out.is.row
          have hgr := KeptL.of_grown hgrow5
          have hnd : ∀ k, k < V1.heap.size → k ∉ (Value.slice At i ct).ownBlock.toList := fun k hk hm => by
            have := hrb k (by simpa using hm)
            omega
          have hoth : ∀ t, t ≠ 3 → Other wB t (Value.slice At i ct).ownBlock.toList := own_other HO8.out
          have hSZ := HSZ.out
          have e9 : RDS w w5 n0 b0 g #[.int .u8 (k : Int), .int .i64 (x1 : Int), .int .i64 (x2 : Int), .int .i64 0, .int .i64 0, .bool false, .slice At i ct] (tmany tone (i + 1) r).2 :=
            ⟨hgr.row HE8.out.res (hnd _ (by omega)), hgr.row HE8.out.non (hnd _ (by omega)), hgr.row HE8.out.msg (hnd _ hSZ.1), HE8.out.is.keptL hgr ((hoth 77 (by decide)).ne hg) (hnd _ hSZ.2.2), HE8.out.bg, HE8.out.b2, Nat.lt_of_lt_of_le HE8.out.bs hgr.size,
              HE8.out.below.grown hgrow5 (Nat.le_of_lt HE8.out.res.lt) (fun k hk => Nat.le_trans hSZ.2.1 (hrb k hk)), HE8.out.gn⟩
          have hsz9 : V1.heap.size ≤ w5.heap.size := Nat.le_trans HW8.out hgr.size
          have u1 := e9.msg.cell 6; have z9 := e9.msg.frozen 6
          simp only [List.getElem?_toArray, List.getElem?_cons_zero, List.getElem?_cons_succ] at u1
          refine ⟨fun _ => u1, ?_⟩
          have HNX : Hid (∃ vt, RDS w (w5.setCell ⟨n0 + 2, 6, none⟩ (.slice (some ⟨g5, 0, none⟩) (i + 1) c5)) n0 b0 g #[.int .u8 (k : Int), .int .i64 (x1 : Int), .int .i64 (x2 : Int), .int .i64 0, .int .i64 0, .bool false, vt] (tmany tone (i + 1) r).2 ∧ (w5.setCell ⟨n0 + 2, 6, none⟩ (.slice (some ⟨g5, 0, none⟩) (i + 1) c5)).ownsRow V1.heap.size 3 1 vt (i + 1) (ivals (tmany tone (i + 1) r).1) ∧ V1.heap.size ≤ (w5.setCell ⟨n0 + 2, 6, none⟩ (.slice (some ⟨g5, 0, none⟩) (i + 1) c5)).heap.size) :=
            ⟨_, e9.set 6 _, own_far (a := ⟨n0 + 2, 6, none⟩) hown5 (fun e => by have h1 := (hown5.lt (n0 + 2) e).1; omega) _, by simpa [World.setCell] using hsz9⟩
          clear hown5 hgrow5 hrb e9 hgr hnd hoth hg hsz9 hSZ
          refine AnyBut.one 7 rfl (by kernel_rfl) (by rfl) ?_
          go_simp
          refine AnyBut.one 8 rfl (by kernel_rfl) (by rfl) ?_
          go_simp
          refine AnyBut.done (by kernel_rfl) ?_
          clear u1 z9
          go_wp2_with fail
          go_roundw
          case rel => exact ⟨i + 1, by omega, by go_num, HNX⟩
          case measure => simp [intOf]; omega
        · have HIN : Hid (i = n) := by show _ = _; omega
          have HIS : Hid (tmany tone i r = tmany tone n r) := by show _ = _; rw [HIN.out]
          rw [HIS.out] at HE HO
          obtain ⟨sf, hsf⟩ : ∃ y, (tmany tone n r).2 = y := ⟨_, rfl⟩
          obtain ⟨lf, hlf⟩ : ∃ y, (tmany tone n r).1 = y := ⟨_, rfl⟩
          rw [hsf] at HE HTT
          rw [hlf] at HO HTT
          clear HIS hsf hlf
          obtain ⟨rv, hrow⟩ := HE.out.is.row
          have fl1 := hrow.cell 1
          simp only [List.getElem?_toArray, List.getElem?_cons_zero, List.getElem?_cons_succ] at fl1
          clear hrow
          cases sf with
          | none =>
            rw [show (none : St).isNone = true from rfl] at fl1
            have hz := HE.out.res
            have hx := HE.out.non
            have xx0 := hx.cell 0
            have xx1 := hx.cell 1
            have xx2 := hx.cell 2
            have xx3 := hx.cell 3
            have xx4 := hx.cell 4
            have xx5 := hx.cell 5
            have xx6 := hx.cell 6
            simp only [List.getElem?_toArray, List.getElem?_cons_zero, List.getElem?_cons_succ] at xx0 xx1 xx2 xx3 xx4 xx5 xx6
            have q0 := hz.cell 0; have r0 := hz.frozen 0
            have q1 := hz.cell 1; have r1 := hz.frozen 1
            have q2 := hz.cell 2; have r2 := hz.frozen 2
            have q3 := hz.cell 3; have r3 := hz.frozen 3
            have q4 := hz.cell 4; have r4 := hz.frozen 4
            have q5 := hz.cell 5; have r5 := hz.frozen 5
            have q6 := hz.cell 6; have r6 := hz.frozen 6
            simp only [List.getElem?_toArray, List.getElem?_cons_zero, List.getElem?_cons_succ] at q0 q1 q2 q3 q4 q5 q6
            go_wp2_with fail
            have hp := put7 hz (.int .u8 0) (.int .i64 0) (.int .i64 0) (.int .i64 0) (.int .i64 0) (.bool false) (.slice none 0 0)
            refine bodyPost_ret (results_cell_tmp_row rfl _ _ n0 29 #[.int .u8 0, .int .i64 0, .int .i64 0, .int .i64 0, .int .i64 0, .bool false, .slice none 0 0] (0, 0) _ rfl hp.1 Try.underlying29 rfl Try.size29) rfl ?_
            have hdec : R = (M0, 4) := by rw [← HRR.out]; rw [HF.out]; exact fin_none (by rw [HTT.out])
            rw [hdec]
            exact ⟨_, rfl, msg0 _ _, by rw [← HN0.out]; exact HE.out.below.trans hp.2.1⟩
          | some l1 =>
            rw [show (some l1 : St).isNone = false from rfl] at fl1
            go_wp2_with fail
            refine (iend_any wr b0 g l1 HE.out.is).mono ?_
            rintro e w' ⟨rfl, rfl⟩
            clear fl1
            cases he : endB l1 with
            | false =>
              have hz := HE.out.res
              have hx := HE.out.non
              have xx0 := hx.cell 0
              have xx1 := hx.cell 1
              have xx2 := hx.cell 2
              have xx3 := hx.cell 3
              have xx4 := hx.cell 4
              have xx5 := hx.cell 5
              have xx6 := hx.cell 6
              simp only [List.getElem?_toArray, List.getElem?_cons_zero, List.getElem?_cons_succ] at xx0 xx1 xx2 xx3 xx4 xx5 xx6
              have q0 := hz.cell 0; have r0 := hz.frozen 0
              have q1 := hz.cell 1; have r1 := hz.frozen 1
              have q2 := hz.cell 2; have r2 := hz.frozen 2
              have q3 := hz.cell 3; have r3 := hz.frozen 3
              have q4 := hz.cell 4; have r4 := hz.frozen 4
              have q5 := hz.cell 5; have r5 := hz.frozen 5
              have q6 := hz.cell 6; have r6 := hz.frozen 6
              simp only [List.getElem?_toArray, List.getElem?_cons_zero, List.getElem?_cons_succ] at q0 q1 q2 q3 q4 q5 q6
              go_wp2_with fail
              have hp := put7 hz (.int .u8 0) (.int .i64 0) (.int .i64 0) (.int .i64 0) (.int .i64 0) (.bool false) (.slice none 0 0)
              refine bodyPost_ret (results_cell_tmp_row rfl _ _ n0 29 #[.int .u8 0, .int .i64 0, .int .i64 0, .int .i64 0, .int .i64 0, .bool false, .slice none 0 0] (0, 0) _ rfl hp.1 Try.underlying29 rfl Try.size29) rfl ?_
              have hdec : R = (M0, 2) := by rw [← HRR.out]; rw [HF.out]; exact fin_bad (by rw [HTT.out]) he
              rw [hdec]
              exact ⟨_, rfl, msg0 _ _, by rw [← HN0.out]; exact HE.out.below.trans hp.2.1⟩
            | true =>
              have hz := HE.out.res
              have hx := HE.out.non
              have xx0 := hx.cell 0
              have xx1 := hx.cell 1
              have xx2 := hx.cell 2
              have xx3 := hx.cell 3
              have xx4 := hx.cell 4
              have xx5 := hx.cell 5
              have xx6 := hx.cell 6
              simp only [List.getElem?_toArray, List.getElem?_cons_zero, List.getElem?_cons_succ] at xx0 xx1 xx2 xx3 xx4 xx5 xx6
              have q0 := hz.cell 0; have r0 := hz.frozen 0
              have q1 := hz.cell 1; have r1 := hz.frozen 1
              have q2 := hz.cell 2; have r2 := hz.frozen 2
              have q3 := hz.cell 3; have r3 := hz.frozen 3
              have q4 := hz.cell 4; have r4 := hz.frozen 4
              have q5 := hz.cell 5; have r5 := hz.frozen 5
              have q6 := hz.cell 6; have r6 := hz.frozen 6
              simp only [List.getElem?_toArray, List.getElem?_cons_zero, List.getElem?_cons_succ] at q0 q1 q2 q3 q4 q5 q6
              have hy := HE.out.msg
              have yy0 := hy.cell 0
              have yy1 := hy.cell 1
              have yy2 := hy.cell 2
              have yy3 := hy.cell 3
              have yy4 := hy.cell 4
              have yy5 := hy.cell 5
              have yy6 := hy.cell 6
              simp only [List.getElem?_toArray, List.getElem?_cons_zero, List.getElem?_cons_succ] at yy0 yy1 yy2 yy3 yy4 yy5 yy6
              go_wp2_with fail
              have hp := put7 hz (.int .u8 (k : Int)) (.int .i64 (x1 : Int)) (.int .i64 (x2 : Int)) (.int .i64 0) (.int .i64 0) (.bool false) (.slice At i ct)
              refine bodyPost_ret (results_cell_tmp_row rfl _ _ n0 29 #[.int .u8 (k : Int), .int .i64 (x1 : Int), .int .i64 (x2 : Int), .int .i64 0, .int .i64 0, .bool false, .slice At i ct] (0, 0) _ rfl hp.1 Try.underlying29 rfl Try.size29) rfl ?_
              have hdec : R = (⟨k, (x1 : Int), (x2 : Int), (0 : Int), (0 : Int), false, lf⟩, 0) := by rw [← HRR.out, HF.out, fin_ok (l := l1) (by rw [HTT.out]) he, HTT.out]
              rw [hdec]
              exact ⟨_, rfl, ⟨_, rfl, Rd.of_own (own_keptL HO.out hp.2.2 (Other.one hz (by decide)))⟩, by rw [← HN0.out]; exact HE.out.below.trans hp.2.1⟩
    · have hc : hasT k = false := by simp [hasT, hk3, hk6]
      have e6 : ((k : Int) == 6) = false := by simp; omega
      have HTT : Hid (trest k s1 = (⟨k, (x1 : Int), (x2 : Int), (0 : Int), (0 : Int), false, []⟩, s)) := by show _ = _; rw [HT.out, HTR.out, ttrail_no hc]
      clear HT HTR hc
      obtain ⟨sf, hsf⟩ : ∃ y, s = y := ⟨_, rfl⟩
      rw [hsf] at HE HTT
      clear hsf
      obtain ⟨rv, hrow⟩ := HE.out.is.row
      have fl1 := hrow.cell 1
      simp only [List.getElem?_toArray, List.getElem?_cons_zero, List.getElem?_cons_succ] at fl1
      clear hrow
      cases sf with
      | none =>
        rw [show (none : St).isNone = true from rfl] at fl1
        have hz := HE.out.res
        have hx := HE.out.non
        have xx0 := hx.cell 0
        have xx1 := hx.cell 1
        have xx2 := hx.cell 2
        have xx3 := hx.cell 3
        have xx4 := hx.cell 4
        have xx5 := hx.cell 5
        have xx6 := hx.cell 6
        simp only [List.getElem?_toArray, List.getElem?_cons_zero, List.getElem?_cons_succ] at xx0 xx1 xx2 xx3 xx4 xx5 xx6
        have q0 := hz.cell 0; have r0 := hz.frozen 0
        have q1 := hz.cell 1; have r1 := hz.frozen 1
        have q2 := hz.cell 2; have r2 := hz.frozen 2
        have q3 := hz.cell 3; have r3 := hz.frozen 3
        have q4 := hz.cell 4; have r4 := hz.frozen 4
        have q5 := hz.cell 5; have r5 := hz.frozen 5
        have q6 := hz.cell 6; have r6 := hz.frozen 6
        simp only [List.getElem?_toArray, List.getElem?_cons_zero, List.getElem?_cons_succ] at q0 q1 q2 q3 q4 q5 q6
        go_wp2_with fail
        have hp := put7 hz (.int .u8 0) (.int .i64 0) (.int .i64 0) (.int .i64 0) (.int .i64 0) (.bool false) (.slice none 0 0)
        refine bodyPost_ret (results_cell_tmp_row rfl _ _ n0 29 #[.int .u8 0, .int .i64 0, .int .i64 0, .int .i64 0, .int .i64 0, .bool false, .slice none 0 0] (0, 0) _ rfl hp.1 Try.underlying29 rfl Try.size29) rfl ?_
        have hdec : R = (M0, 4) := by rw [← HRR.out]; rw [HF.out]; exact fin_none (by rw [HTT.out])
        rw [hdec]
        exact ⟨_, rfl, msg0 _ _, by rw [← HN0.out]; exact HE.out.below.trans hp.2.1⟩
      | some l0 =>
        rw [show (some l0 : St).isNone = false from rfl] at fl1
        go_wp2_with fail
        refine (iend_any W9 b0 g l0 HE.out.is).mono ?_
        rintro e w' ⟨rfl, rfl⟩
        clear fl1
        cases he : endB l0 with
        | false =>
          have hz := HE.out.res
          have hx := HE.out.non
          have xx0 := hx.cell 0
          have xx1 := hx.cell 1
          have xx2 := hx.cell 2
          have xx3 := hx.cell 3
          have xx4 := hx.cell 4
          have xx5 := hx.cell 5
          have xx6 := hx.cell 6
          simp only [List.getElem?_toArray, List.getElem?_cons_zero, List.getElem?_cons_succ] at xx0 xx1 xx2 xx3 xx4 xx5 xx6
          have q0 := hz.cell 0; have r0 := hz.frozen 0
          have q1 := hz.cell 1; have r1 := hz.frozen 1
          have q2 := hz.cell 2; have r2 := hz.frozen 2
          have q3 := hz.cell 3; have r3 := hz.frozen 3
          have q4 := hz.cell 4; have r4 := hz.frozen 4
          have q5 := hz.cell 5; have r5 := hz.frozen 5
          have q6 := hz.cell 6; have r6 := hz.frozen 6
          simp only [List.getElem?_toArray, List.getElem?_cons_zero, List.getElem?_cons_succ] at q0 q1 q2 q3 q4 q5 q6
          go_wp2_with fail
          have hp := put7 hz (.int .u8 0) (.int .i64 0) (.int .i64 0) (.int .i64 0) (.int .i64 0) (.bool false) (.slice none 0 0)
          refine bodyPost_ret (results_cell_tmp_row rfl _ _ n0 29 #[.int .u8 0, .int .i64 0, .int .i64 0, .int .i64 0, .int .i64 0, .bool false, .slice none 0 0] (0, 0) _ rfl hp.1 Try.underlying29 rfl Try.size29) rfl ?_
          have hdec : R = (M0, 2) := by rw [← HRR.out]; rw [HF.out]; exact fin_bad (by rw [HTT.out]) he
          rw [hdec]
          exact ⟨_, rfl, msg0 _ _, by rw [← HN0.out]; exact HE.out.below.trans hp.2.1⟩
        | true =>
          have hz := HE.out.res
          have hx := HE.out.non
          have xx0 := hx.cell 0
          have xx1 := hx.cell 1
          have xx2 := hx.cell 2
          have xx3 := hx.cell 3
          have xx4 := hx.cell 4
          have xx5 := hx.cell 5
          have xx6 := hx.cell 6
          simp only [List.getElem?_toArray, List.getElem?_cons_zero, List.getElem?_cons_succ] at xx0 xx1 xx2 xx3 xx4 xx5 xx6
          have q0 := hz.cell 0; have r0 := hz.frozen 0
          have q1 := hz.cell 1; have r1 := hz.frozen 1
          have q2 := hz.cell 2; have r2 := hz.frozen 2
          have q3 := hz.cell 3; have r3 := hz.frozen 3
          have q4 := hz.cell 4; have r4 := hz.frozen 4
          have q5 := hz.cell 5; have r5 := hz.frozen 5
          have q6 := hz.cell 6; have r6 := hz.frozen 6
          simp only [List.getElem?_toArray, List.getElem?_cons_zero, List.getElem?_cons_succ] at q0 q1 q2 q3 q4 q5 q6
          have hy := HE.out.msg
          have yy0 := hy.cell 0
          have yy1 := hy.cell 1
          have yy2 := hy.cell 2
          have yy3 := hy.cell 3
          have yy4 := hy.cell 4
          have yy5 := hy.cell 5
          have yy6 := hy.cell 6
          simp only [List.getElem?_toArray, List.getElem?_cons_zero, List.getElem?_cons_succ] at yy0 yy1 yy2 yy3 yy4 yy5 yy6
          go_wp2_with fail
          have hp := put7 hz (.int .u8 (k : Int)) (.int .i64 (x1 : Int)) (.int .i64 (x2 : Int)) (.int .i64 0) (.int .i64 0) (.bool false) (.slice none 0 0)
          refine bodyPost_ret (results_cell_tmp_row rfl _ _ n0 29 #[.int .u8 (k : Int), .int .i64 (x1 : Int), .int .i64 (x2 : Int), .int .i64 0, .int .i64 0, .bool false, .slice none 0 0] (0, 0) _ rfl hp.1 Try.underlying29 rfl Try.size29) rfl ?_
          have hdec : R = (⟨k, (x1 : Int), (x2 : Int), (0 : Int), (0 : Int), false, []⟩, 0) := by rw [← HRR.out, HF.out, fin_ok (l := l0) (by rw [HTT.out]) he, HTT.out]
          rw [hdec]
          exact ⟨_, rfl, ⟨.slice none 0 0, rfl, Rd.empty _ _⟩, by rw [← HN0.out]; exact HE.out.below.trans hp.2.1⟩

theorem refDecode_any (w : World) (v : Value) (q : List Nat) (h : Rd w w.heap.size v (bvals q)) (hq : ∀ x ∈ q, x < 256) (hl : q.length ≤ 400) : Calls Try.prog 38 #[v] w (RetDec (dec q) w) := by
  unfold dec
  by_cases h2 : q.length < 2
  · rw [if_pos h2]; exact refDecode_short w v q h hq hl h2
  · rw [if_neg h2]
    by_cases hs : sumOf (q.take (q.length - 2)) = tailNum q
    · rw [if_neg (by simpa using hs)]; exact refDecode_main w v q h hq hl (by omega) hs
    · rw [if_pos (by simpa using hs)]; exact refDecode_bad w v q h hq hl (by omega) hs

end Go.Proofs.Ytcfnaajnkloobaa
