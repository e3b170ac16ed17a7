/- Contract: the program's Decode. -/
import Derived.Test.YtcfnaajnkloobaaM6
import Derived.ScopeJumps
import Derived.WalkMore
namespace Go.Proofs.Ytcfnaajnkloobaa
open Go.RowKit
set_option maxRecDepth 100000

theorem Try.size29 : (Try.prog.info? 29).map (·.size) = some 7 := by kernel_rfl

/-- The frame of Decode: its result's place is known. -/
def Fr (n0 : Nat) (a : Act) : Prop := a = { tmps := #[a.tmps.getD 0 undef, a.tmps.getD 1 undef, .pointer (some ⟨n0, 0, none⟩), a.tmps.getD 3 undef, a.tmps.getD 4 undef, a.tmps.getD 5 undef, a.tmps.getD 6 undef, a.tmps.getD 7 undef, a.tmps.getD 8 undef, a.tmps.getD 9 undef, a.tmps.getD 10 undef, a.tmps.getD 11 undef, a.tmps.getD 12 undef, a.tmps.getD 13 undef, a.tmps.getD 14 undef, a.tmps.getD 15 undef, a.tmps.getD 16 undef, a.tmps.getD 17 undef, a.tmps.getD 18 undef, a.tmps.getD 19 undef, a.tmps.getD 20 undef, a.tmps.getD 21 undef, a.tmps.getD 22 undef, a.tmps.getD 23 undef, a.tmps.getD 24 undef, a.tmps.getD 25 undef, a.tmps.getD 26 undef, a.tmps.getD 27 undef, a.tmps.getD 28 undef, a.tmps.getD 29 undef, a.tmps.getD 30 undef, a.tmps.getD 31 undef, a.tmps.getD 32 undef, a.tmps.getD 33 undef, a.tmps.getD 34 undef, a.tmps.getD 35 undef, a.tmps.getD 36 undef, a.tmps.getD 37 undef, a.tmps.getD 38 undef, a.tmps.getD 39 undef, a.tmps.getD 40 undef, a.tmps.getD 41 undef, a.tmps.getD 42 undef, a.tmps.getD 43 undef, a.tmps.getD 44 undef, a.tmps.getD 45 undef, a.tmps.getD 46 undef, a.tmps.getD 47 undef, a.tmps.getD 48 undef, a.tmps.getD 49 undef, a.tmps.getD 50 undef, a.tmps.getD 51 undef, a.tmps.getD 52 undef, a.tmps.getD 53 undef, a.tmps.getD 54 undef, a.tmps.getD 55 undef, a.tmps.getD 56 undef, a.tmps.getD 57 undef, a.tmps.getD 58 undef, a.tmps.getD 59 undef, a.tmps.getD 60 undef, a.tmps.getD 61 undef, a.tmps.getD 62 undef, a.tmps.getD 63 undef, a.tmps.getD 64 undef, a.tmps.getD 65 undef, a.tmps.getD 66 undef, a.tmps.getD 67 undef, a.tmps.getD 68 undef, a.tmps.getD 69 undef, a.tmps.getD 70 undef, a.tmps.getD 71 undef, a.tmps.getD 72 undef, a.tmps.getD 73 undef, a.tmps.getD 74 undef, a.tmps.getD 75 undef, a.tmps.getD 76 undef, a.tmps.getD 77 undef, a.tmps.getD 78 undef, a.tmps.getD 79 undef, a.tmps.getD 80 undef, a.tmps.getD 81 undef, a.tmps.getD 82 undef, a.tmps.getD 83 undef, a.tmps.getD 84 undef], defers := [] }

theorem Fr.open_ {n0 : Nat} {a : Act} (h : Fr n0 a) : ∃ f : Nat → Value, a = { tmps := #[f 0, f 1, .pointer (some ⟨n0, 0, none⟩), f 3, f 4, f 5, f 6, f 7, f 8, f 9, f 10, f 11, f 12, f 13, f 14, f 15, f 16, f 17, f 18, f 19, f 20, f 21, f 22, f 23, f 24, f 25, f 26, f 27, f 28, f 29, f 30, f 31, f 32, f 33, f 34, f 35, f 36, f 37, f 38, f 39, f 40, f 41, f 42, f 43, f 44, f 45, f 46, f 47, f 48, f 49, f 50, f 51, f 52, f 53, f 54, f 55, f 56, f 57, f 58, f 59, f 60, f 61, f 62, f 63, f 64, f 65, f 66, f 67, f 68, f 69, f 70, f 71, f 72, f 73, f 74, f 75, f 76, f 77, f 78, f 79, f 80, f 81, f 82, f 83, f 84], defers := [] } := ⟨fun k => a.tmps.getD k undef, h⟩

set_option maxHeartbeats 8000000 in
theorem decode_short (w : World) (v : Value) (q : List Nat) (h : Rd w w.heap.size v (bvals q)) (hq : ∀ x ∈ q, x < 256) (_hl : q.length ≤ 400) (h2 : q.length < 2) : Calls Try.prog 11 #[v] w (RetDec (M0, 4) w) := by
  obtain ⟨i3, hi3, hz30, hz31, hz32⟩ := info_parts Try.info3
  obtain ⟨R, hR⟩ : ∃ R : Msg × Int, (M0, 4) = R := ⟨_, rfl⟩
  rw [hR]
  have HRR := Lib.hid hR; clear hR
  obtain ⟨hr0, hm0, hb0⟩ := ds_of w
  have HR0 := Lib.hid hr0; have HM0 := Lib.hid hm0; have HB0 := Lib.hid hb0
  have HV : Hid (Rd ((w.alloc (.cells #[.int .u8 0, .int .i64 0, .int .i64 0, .int .i64 0, .int .i64 0, .bool false, .slice none 0 0] 29)).alloc (.cells #[.int .u8 0, .int .i64 0, .int .i64 0, .int .i64 0, .int .i64 0, .bool false, .slice none 0 0] 29)) ((w.alloc (.cells #[.int .u8 0, .int .i64 0, .int .i64 0, .int .i64 0, .int .i64 0, .bool false, .slice none 0 0] 29)).alloc (.cells #[.int .u8 0, .int .i64 0, .int .i64 0, .int .i64 0, .int .i64 0, .bool false, .slice none 0 0] 29)).heap.size v (bvals q)) := h.up hb0
  have HQ := Lib.hid hq
  have H2 := Lib.hid h2; clear h2
  obtain ⟨n0, hn0⟩ : ∃ n, n = w.heap.size := ⟨_, rfl⟩
  clear h hq hr0 hm0 hb0
  go_enter Try.func11, Try.ntmps11
  go_wp2_with fail
  rw [← hn0] at HR0 HM0 HB0 ⊢
  have HN0 := Lib.hid hn0; clear hn0
  refine wp_scope_jumps 0 (fun a' w' => Fr n0 a' ∧ (Row w' n0 29 #[.int .u8 0, .int .i64 0, .int .i64 0, .int .i64 0, .int .i64 0, .bool false, .slice none 0 0] ∧ Below n0 w w' ∧ R = (M0, 4))) (fun _ _ => 0) rfl ?_ ?_
  rotate_left
  · rintro a' w' ⟨hfr, hz, hbz, rfl⟩
    obtain ⟨f, rfl⟩ := hfr.open_
    clear hfr
    have HBZ := Lib.hid hbz; clear hbz
    have q0 := hz.cell 0; have r0 := hz.frozen 0
    have q1 := hz.cell 1; have r1 := hz.frozen 1
    have q2 := hz.cell 2; have r2 := hz.frozen 2
    have q3 := hz.cell 3; have r3 := hz.frozen 3
    have q4 := hz.cell 4; have r4 := hz.frozen 4
    have q5 := hz.cell 5; have r5 := hz.frozen 5
    have q6 := hz.cell 6; have r6 := hz.frozen 6
    simp only [List.getElem?_toArray, List.getElem?_cons_zero, List.getElem?_cons_succ] at q0 q1 q2 q3 q4 q5 q6
    go_wp2_with fail
    simp only [Exit.jump]
    have hp := put7 hz (.int .u8 0) (.int .i64 0) (.int .i64 0) (.int .i64 0) (.int .i64 0) (.bool false) (.slice none 0 0)
    refine bodyPost_ret (results_cell_tmp_row rfl _ _ n0 29 #[.int .u8 0, .int .i64 0, .int .i64 0, .int .i64 0, .int .i64 0, .bool false, .slice none 0 0] (0, 0) _ rfl hp.1 Try.underlying29 rfl Try.size29) rfl ?_
    exact ⟨_, rfl, msg0 _ _, by rw [← HN0.out]; exact HBZ.out.trans hp.2.1⟩
  go_upto_region 2 with (fail)
  rw [← HN0.out]
  generalize (w.alloc (.cells #[.int .u8 0, .int .i64 0, .int .i64 0, .int .i64 0, .int .i64 0, .bool false, .slice none 0 0] 29)).alloc (.cells #[.int .u8 0, .int .i64 0, .int .i64 0, .int .i64 0, .int .i64 0, .bool false, .slice none 0 0] 29) = W0 at *
  go_wp2_with fail
  refine (open_short W0 _ v q HV.out H2.out).mono ?_
  rintro e W1 ⟨rfl, rfl⟩
  have hz := HR0.out
  have q0 := hz.cell 0; have r0 := hz.frozen 0
  have q1 := hz.cell 1; have r1 := hz.frozen 1
  have q2 := hz.cell 2; have r2 := hz.frozen 2
  have q3 := hz.cell 3; have r3 := hz.frozen 3
  have q4 := hz.cell 4; have r4 := hz.frozen 4
  have q5 := hz.cell 5; have r5 := hz.frozen 5
  have q6 := hz.cell 6; have r6 := hz.frozen 6
  simp only [List.getElem?_toArray, List.getElem?_cons_zero, List.getElem?_cons_succ] at q0 q1 q2 q3 q4 q5 q6
  go_wp2_with fail
  simp only [Exit.jump]
  have hp := put7 hz (.int .u8 0) (.int .i64 0) (.int .i64 0) (.int .i64 0) (.int .i64 0) (.bool false) (.slice none 0 0)
  refine bodyPost_ret (results_cell_tmp_row rfl _ _ n0 29 #[.int .u8 0, .int .i64 0, .int .i64 0, .int .i64 0, .int .i64 0, .bool false, .slice none 0 0] (0, 0) _ rfl hp.1 Try.underlying29 rfl Try.size29) rfl ?_
  rw [← HRR.out]
  exact ⟨_, rfl, msg0 _ _, by rw [← HN0.out]; exact HB0.out.trans hp.2.1⟩

set_option maxHeartbeats 8000000 in
theorem decode_bad (w : World) (v : Value) (q : List Nat) (h : Rd w w.heap.size v (bvals q)) (hq : ∀ x ∈ q, x < 256) (hl : q.length ≤ 400) (h2 : 2 ≤ q.length) (hne : sumOf (q.take (q.length - 2)) ≠ tailNum q) : Calls Try.prog 11 #[v] w (RetDec (M0, 3) w) := by
  obtain ⟨i3, hi3, hz30, hz31, hz32⟩ := info_parts Try.info3
  obtain ⟨R, hR⟩ : ∃ R : Msg × Int, (M0, 3) = R := ⟨_, rfl⟩
  rw [hR]
  have HRR := Lib.hid hR; clear hR
  obtain ⟨hr0, hm0, hb0⟩ := ds_of w
  have HR0 := Lib.hid hr0; have HM0 := Lib.hid hm0; have HB0 := Lib.hid hb0
  have HV : Hid (Rd ((w.alloc (.cells #[.int .u8 0, .int .i64 0, .int .i64 0, .int .i64 0, .int .i64 0, .bool false, .slice none 0 0] 29)).alloc (.cells #[.int .u8 0, .int .i64 0, .int .i64 0, .int .i64 0, .int .i64 0, .bool false, .slice none 0 0] 29)) ((w.alloc (.cells #[.int .u8 0, .int .i64 0, .int .i64 0, .int .i64 0, .int .i64 0, .bool false, .slice none 0 0] 29)).alloc (.cells #[.int .u8 0, .int .i64 0, .int .i64 0, .int .i64 0, .int .i64 0, .bool false, .slice none 0 0] 29)).heap.size v (bvals q)) := h.up hb0
  have HQ := Lib.hid hq
  have H2 := Lib.hid h2; clear h2
  have HH := Lib.hid hne; clear hne
  obtain ⟨n0, hn0⟩ : ∃ n, n = w.heap.size := ⟨_, rfl⟩
  clear h hq hr0 hm0 hb0
  go_enter Try.func11, Try.ntmps11
  go_wp2_with fail
  rw [← hn0] at HR0 HM0 HB0 ⊢
  have HN0 := Lib.hid hn0; clear hn0
  refine wp_scope_jumps 0 (fun a' w' => Fr n0 a' ∧ (Row w' n0 29 #[.int .u8 0, .int .i64 0, .int .i64 0, .int .i64 0, .int .i64 0, .bool false, .slice none 0 0] ∧ Below n0 w w' ∧ R = (M0, 4))) (fun _ _ => 0) rfl ?_ ?_
  rotate_left
  · rintro a' w' ⟨hfr, hz, hbz, rfl⟩
    obtain ⟨f, rfl⟩ := hfr.open_
    clear hfr
    have HBZ := Lib.hid hbz; clear hbz
    have q0 := hz.cell 0; have r0 := hz.frozen 0
    have q1 := hz.cell 1; have r1 := hz.frozen 1
    have q2 := hz.cell 2; have r2 := hz.frozen 2
    have q3 := hz.cell 3; have r3 := hz.frozen 3
    have q4 := hz.cell 4; have r4 := hz.frozen 4
    have q5 := hz.cell 5; have r5 := hz.frozen 5
    have q6 := hz.cell 6; have r6 := hz.frozen 6
    simp only [List.getElem?_toArray, List.getElem?_cons_zero, List.getElem?_cons_succ] at q0 q1 q2 q3 q4 q5 q6
    go_wp2_with fail
    simp only [Exit.jump]
    have hp := put7 hz (.int .u8 0) (.int .i64 0) (.int .i64 0) (.int .i64 0) (.int .i64 0) (.bool false) (.slice none 0 0)
    refine bodyPost_ret (results_cell_tmp_row rfl _ _ n0 29 #[.int .u8 0, .int .i64 0, .int .i64 0, .int .i64 0, .int .i64 0, .bool false, .slice none 0 0] (0, 0) _ rfl hp.1 Try.underlying29 rfl Try.size29) rfl ?_
    exact ⟨_, rfl, msg0 _ _, by rw [← HN0.out]; exact HBZ.out.trans hp.2.1⟩
  go_upto_region 2 with (fail)
  rw [← HN0.out]
  generalize (w.alloc (.cells #[.int .u8 0, .int .i64 0, .int .i64 0, .int .i64 0, .int .i64 0, .bool false, .slice none 0 0] 29)).alloc (.cells #[.int .u8 0, .int .i64 0, .int .i64 0, .int .i64 0, .int .i64 0, .bool false, .slice none 0 0] 29) = W0 at *
  go_wp2_with fail
  refine (open_bad W0 _ v q HV.out HQ.out (by have := H2.out; omega) H2.out HH.out).mono ?_
  rintro e W1 ⟨rfl, m1, hW1⟩
  have HR1 : Hid (Row W1 n0 29 #[.int .u8 0, .int .i64 0, .int .i64 0, .int .i64 0, .int .i64 0, .bool false, .slice none 0 0]) := by rw [hW1]; exact HR0.out
  have HB1 : Hid (Below n0 w W1) := by rw [hW1]; exact ⟨HB0.out.os, HB0.out.tape, HB0.out.output, HB0.out.size, HB0.out.block⟩
  clear hW1 HR0 HB0
  have HR0 := HR1; have HB0 := HB1; clear HR1 HB1
  have hz := HR0.out
  have q0 := hz.cell 0; have r0 := hz.frozen 0
  have q1 := hz.cell 1; have r1 := hz.frozen 1
  have q2 := hz.cell 2; have r2 := hz.frozen 2
  have q3 := hz.cell 3; have r3 := hz.frozen 3
  have q4 := hz.cell 4; have r4 := hz.frozen 4
  have q5 := hz.cell 5; have r5 := hz.frozen 5
  have q6 := hz.cell 6; have r6 := hz.frozen 6
  simp only [List.getElem?_toArray, List.getElem?_cons_zero, List.getElem?_cons_succ] at q0 q1 q2 q3 q4 q5 q6
  go_wp2_with fail
  simp only [Exit.jump]
  have hp := put7 hz (.int .u8 0) (.int .i64 0) (.int .i64 0) (.int .i64 0) (.int .i64 0) (.bool false) (.slice none 0 0)
  refine bodyPost_ret (results_cell_tmp_row rfl _ _ n0 29 #[.int .u8 0, .int .i64 0, .int .i64 0, .int .i64 0, .int .i64 0, .bool false, .slice none 0 0] (0, 0) _ rfl hp.1 Try.underlying29 rfl Try.size29) rfl ?_
  rw [← HRR.out]
  exact ⟨_, rfl, msg0 _ _, by rw [← HN0.out]; exact HB0.out.trans hp.2.1⟩

theorem own_other {w : World} {B n : Nat} {t0 : TypeId} {size : Nat} {v : Value} {xs : List Value} (h : w.ownsRow B t0 size v n xs) : ∀ t, t ≠ t0 → Other w t v.ownBlock.toList := by
  intro t ht k hk
  have hk' : v.ownBlock = some k := by simpa using hk
  rcases h.2 with ⟨rfl, _⟩ | ⟨r, cap, cur, rfl, _, hh, _⟩
  · cases hk'
  · injection hk' with e
    subst e
    exact ⟨t0, cur, ht, hh⟩

set_option maxHeartbeats 8000000 in
theorem decode_main (w : World) (v : Value) (q : List Nat) (h : Rd w w.heap.size v (bvals q)) (hq : ∀ x ∈ q, x < 256) (hl : q.length ≤ 400) (h2 : 2 ≤ q.length) (heq : sumOf (q.take (q.length - 2)) = tailNum q) : Calls Try.prog 11 #[v] w (RetDec (decB (q.take (q.length - 2))) w) := by
  obtain ⟨i3, hi3, hz30, hz31, hz32⟩ := info_parts Try.info3
  obtain ⟨R, hR⟩ : ∃ R : Msg × Int, (decB (q.take (q.length - 2))) = R := ⟨_, rfl⟩
  rw [hR]
  have HRR := Lib.hid hR; clear hR
  obtain ⟨hr0, hm0, hb0⟩ := ds_of w
  have HR0 := Lib.hid hr0; have HM0 := Lib.hid hm0; have HB0 := Lib.hid hb0
  have HV : Hid (Rd ((w.alloc (.cells #[.int .u8 0, .int .i64 0, .int .i64 0, .int .i64 0, .int .i64 0, .bool false, .slice none 0 0] 29)).alloc (.cells #[.int .u8 0, .int .i64 0, .int .i64 0, .int .i64 0, .int .i64 0, .bool false, .slice none 0 0] 29)) ((w.alloc (.cells #[.int .u8 0, .int .i64 0, .int .i64 0, .int .i64 0, .int .i64 0, .bool false, .slice none 0 0] 29)).alloc (.cells #[.int .u8 0, .int .i64 0, .int .i64 0, .int .i64 0, .int .i64 0, .bool false, .slice none 0 0] 29)).heap.size v (bvals q)) := h.up hb0
  have HQ := Lib.hid hq
  have H2 := Lib.hid h2; clear h2
  have HH := Lib.hid heq; clear heq
  obtain ⟨n0, hn0⟩ : ∃ n, n = w.heap.size := ⟨_, rfl⟩
  clear h hq hr0 hm0 hb0
  go_enter Try.func11, Try.ntmps11
  go_wp2_with fail
  rw [← hn0] at HR0 HM0 HB0 ⊢
  have HN0 := Lib.hid hn0; clear hn0
  refine wp_scope_jumps 0 (fun a' w' => Fr n0 a' ∧ (Row w' n0 29 #[.int .u8 0, .int .i64 0, .int .i64 0, .int .i64 0, .int .i64 0, .bool false, .slice none 0 0] ∧ Below n0 w w' ∧ R = (M0, 4))) (fun _ _ => 0) rfl ?_ ?_
  rotate_left
  · rintro a' w' ⟨hfr, hz, hbz, rfl⟩
    obtain ⟨f, rfl⟩ := hfr.open_
    clear hfr
    have HBZ := Lib.hid hbz; clear hbz
    have q0 := hz.cell 0; have r0 := hz.frozen 0
    have q1 := hz.cell 1; have r1 := hz.frozen 1
    have q2 := hz.cell 2; have r2 := hz.frozen 2
    have q3 := hz.cell 3; have r3 := hz.frozen 3
    have q4 := hz.cell 4; have r4 := hz.frozen 4
    have q5 := hz.cell 5; have r5 := hz.frozen 5
    have q6 := hz.cell 6; have r6 := hz.frozen 6
    simp only [List.getElem?_toArray, List.getElem?_cons_zero, List.getElem?_cons_succ] at q0 q1 q2 q3 q4 q5 q6
    go_wp2_with fail
    simp only [Exit.jump]
    have hp := put7 hz (.int .u8 0) (.int .i64 0) (.int .i64 0) (.int .i64 0) (.int .i64 0) (.bool false) (.slice none 0 0)
    refine bodyPost_ret (results_cell_tmp_row rfl _ _ n0 29 #[.int .u8 0, .int .i64 0, .int .i64 0, .int .i64 0, .int .i64 0, .bool false, .slice none 0 0] (0, 0) _ rfl hp.1 Try.underlying29 rfl Try.size29) rfl ?_
    exact ⟨_, rfl, msg0 _ _, by rw [← HN0.out]; exact HBZ.out.trans hp.2.1⟩
  go_upto_region 2 with (fail)
  rw [← HN0.out]
  generalize (w.alloc (.cells #[.int .u8 0, .int .i64 0, .int .i64 0, .int .i64 0, .int .i64 0, .bool false, .slice none 0 0] 29)).alloc (.cells #[.int .u8 0, .int .i64 0, .int .i64 0, .int .i64 0, .int .i64 0, .bool false, .slice none 0 0] 29) = W0 at *
  go_wp2_with fail
  refine (open_ok W0 _ v q HV.out (Nat.le_refl _) HQ.out (by omega) H2.out HH.out).mono ?_
  rintro e W1 ⟨v1, rfl, ho1, hb1⟩
  have HR1 := Lib.hid (Rd.of_own ho1)
  have HOQ : Hid (∀ x ∈ q.take (q.length - 2), x < 256) := fun x hx => HQ.out x (List.mem_of_mem_take hx)
  have HOL : Hid ((q.take (q.length - 2)).length ≤ 400) := by show _ ≤ _; rw [List.length_take]; omega
  have HZ1 := Lib.hid (Below.row hb1 HR0.out HR0.out.lt); have HM1 := Lib.hid (Below.row hb1 HM0.out HM0.out.lt)
  have HB1 := Lib.hid (HB0.out.trans (hb1.mono (Nat.le_of_lt HR0.out.lt)))
  clear ho1 hb1 HH H2 HR0 HM0 HB0 HV HQ
  generalize q.take (q.length - 2) = o at *
  go_wp2_with fail
  refine (newReader_any W1 v1 o HR1.out (by have := HOL.out; omega)).mono ?_
  rintro e W2 ⟨g, rfl, hg, hr, hb2⟩
  have HE : Hid (DS w W2 n0 W1.heap.size g #[.int .u8 0, .int .i64 0, .int .i64 0, .int .i64 0, .int .i64 0, .bool false, .slice none 0 0] (body o)) := ⟨Below.row hb2 HZ1.out HZ1.out.lt, Below.row hb2 HM1.out HM1.out.lt, RS.of_reader hr (by have := HOL.out; omega) HOQ.out, HB1.out.trans (hb2.mono (Nat.le_of_lt HZ1.out.lt)), by have := HZ1.out.lt; omega⟩
  clear hg hr hb2 HZ1 HM1 HB1 HR1
  generalize W1.heap.size = B at *
  go_wp2_with fail
  refine (left_any W2 B g (upto o o.length) HE.out.rs).mono ?_
  rintro e W3 ⟨rfl, m3, hW3⟩
  have HE3 : Hid (DS w W3 n0 B g #[.int .u8 0, .int .i64 0, .int .i64 0, .int .i64 0, .int .i64 0, .bool false, .slice none 0 0] (body o)) := by rw [hW3]; exact HE.out.drewN m3
  clear hW3 HE
  have HE := HE3; clear HE3
  rw [upto_length]
  obtain ⟨L, hL⟩ : ∃ L, 8 * o.length = L := ⟨_, rfl⟩
  rw [hL]
  have HL := Lib.hid hL; clear hL
  by_cases hz0 : L = 0
  · subst hz0
    go_wp2_with fail
    go_step3
    exact ⟨rfl, rfl, HE.out.res, HE.out.below, by rw [← HRR.out]; unfold decB; rw [if_pos (by have := HL.out; omega)]⟩
  have hnz : ((L : Int) == 0) = false := by simp; omega
  obtain ⟨s0, hs0⟩ : ∃ s, body o = s := ⟨_, rfl⟩
  rw [hs0] at HE
  have HS0 := Lib.hid hs0; clear hs0
  go_wp2_with fail
  refine (rget_any W3 B g s0 3 3 HE.out.rs rfl (by omega) (by omega)).mono ?_
  rintro e W4 ⟨rfl, h1, k1⟩
  have hlt_k := tget_lt 3 (s0)
  obtain ⟨k, hx_k⟩ : ∃ y, (tget 3 (s0)).1 = y := ⟨_, rfl⟩
  obtain ⟨s1, hs_k⟩ : ∃ y, (tget 3 (s0)).2 = y := ⟨_, rfl⟩
  rw [hx_k] at hlt_k ⊢
  rw [hs_k] at h1
  have HX_k : Hid ((tget 3 (s0)).1 = k ∧ (tget 3 (s0)).2 = s1) := ⟨hx_k, hs_k⟩
  have HE1 := Lib.hid (HE.out.get h1 k1)
  have c0 := HE1.out.msg.cell 0; have d0 := HE1.out.msg.frozen 0
  simp only [List.getElem?_toArray, List.getElem?_cons_zero] at c0
  have HE2 : Hid (DS w (W4.setCell ⟨n0 + 1, 0, none⟩ (.int .u8 (k : Int))) n0 B g #[.int .u8 (k : Int), .int .i64 0, .int .i64 0, .int .i64 0, .int .i64 0, .bool false, .slice none 0 0] s1) := HE1.out.set 0 _
  have hk8 : k < 8 := by omega
  have hku : IntKind.u8.wrap (k : Int) = (k : Int) := by rw [IntKind.wrap]; simp [IntKind.bits, IntKind.signed]; omega
  clear h1 k1 hx_k hs_k HE HE1
  go_upto_region 8 with (fail)
  generalize W4.setCell ⟨n0 + 1, 0, none⟩ (.int .u8 (k : Int)) = W5 at *
  have HE := HE2; clear HE2 c0 d0 hku hnz
  have HDB : Hid (decB o = if k < 1 ∨ 6 < k then (M0, 2) else fin (trest k s1)) := by
    show _ = _
    unfold decB
    rw [if_neg (by have := HL.out; omega), HS0.out, HX_k.out.1, HX_k.out.2]
  clear HX_k HS0 HL
  have f0 := HE.out.msg.cell 0
  simp only [List.getElem?_toArray, List.getElem?_cons_zero] at f0
  by_cases hk0 : k = 0
  · subst hk0
    have hz := HE.out.res
    have q0 := hz.cell 0; have r0 := hz.frozen 0
    have q1 := hz.cell 1; have r1 := hz.frozen 1
    have q2 := hz.cell 2; have r2 := hz.frozen 2
    have q3 := hz.cell 3; have r3 := hz.frozen 3
    have q4 := hz.cell 4; have r4 := hz.frozen 4
    have q5 := hz.cell 5; have r5 := hz.frozen 5
    have q6 := hz.cell 6; have r6 := hz.frozen 6
    simp only [List.getElem?_toArray, List.getElem?_cons_zero, List.getElem?_cons_succ] at q0 q1 q2 q3 q4 q5 q6
    go_wp2_with fail
    simp only [Exit.jump]
    have hp := put7 hz (.int .u8 0) (.int .i64 0) (.int .i64 0) (.int .i64 0) (.int .i64 0) (.bool false) (.slice none 0 0)
    refine bodyPost_ret (results_cell_tmp_row rfl _ _ n0 29 #[.int .u8 0, .int .i64 0, .int .i64 0, .int .i64 0, .int .i64 0, .bool false, .slice none 0 0] (0, 0) _ rfl hp.1 Try.underlying29 rfl Try.size29) rfl ?_
    have hdec : R = (M0, 2) := by rw [← HRR.out]; rw [HDB.out, if_pos (by omega)]
    rw [hdec]
    exact ⟨_, rfl, msg0 _ _, by rw [← HN0.out]; exact HE.out.below.trans hp.2.1⟩
  by_cases hk7 : k = 7
  · subst hk7
    have hz := HE.out.res
    have q0 := hz.cell 0; have r0 := hz.frozen 0
    have q1 := hz.cell 1; have r1 := hz.frozen 1
    have q2 := hz.cell 2; have r2 := hz.frozen 2
    have q3 := hz.cell 3; have r3 := hz.frozen 3
    have q4 := hz.cell 4; have r4 := hz.frozen 4
    have q5 := hz.cell 5; have r5 := hz.frozen 5
    have q6 := hz.cell 6; have r6 := hz.frozen 6
    simp only [List.getElem?_toArray, List.getElem?_cons_zero, List.getElem?_cons_succ] at q0 q1 q2 q3 q4 q5 q6
    go_wp2_with fail
    simp only [Exit.jump]
    have hp := put7 hz (.int .u8 0) (.int .i64 0) (.int .i64 0) (.int .i64 0) (.int .i64 0) (.bool false) (.slice none 0 0)
    refine bodyPost_ret (results_cell_tmp_row rfl _ _ n0 29 #[.int .u8 0, .int .i64 0, .int .i64 0, .int .i64 0, .int .i64 0, .bool false, .slice none 0 0] (0, 0) _ rfl hp.1 Try.underlying29 rfl Try.size29) rfl ?_
    have hdec : R = (M0, 2) := by rw [← HRR.out]; rw [HDB.out, if_pos (by omega)]
    rw [hdec]
    exact ⟨_, rfl, msg0 _ _, by rw [← HN0.out]; exact HE.out.below.trans hp.2.1⟩
  have hk1 : ¬ (k : Int) < 1 := by omega
  have hk6 : ¬ 6 < (k : Int) := by omega
  have HF : Hid (decB o = fin (trest k s1)) := by show _ = _; rw [HDB.out, if_neg (by omega)]
  clear HDB
  go_wp2_with fail
  refine (rget_any W5 B g s1 6 6 HE.out.rs rfl (by omega) (by omega)).mono ?_
  rintro e W6 ⟨rfl, h1, k1⟩
  have hlt_x1 := tget_lt 6 (s1)
  obtain ⟨x1, hx_x1⟩ : ∃ y, (tget 6 (s1)).1 = y := ⟨_, rfl⟩
  obtain ⟨s2, hs_x1⟩ : ∃ y, (tget 6 (s1)).2 = y := ⟨_, rfl⟩
  rw [hx_x1] at hlt_x1 ⊢
  rw [hs_x1] at h1
  have HX_x1 : Hid ((tget 6 (s1)).1 = x1 ∧ (tget 6 (s1)).2 = s2) := ⟨hx_x1, hs_x1⟩
  have HE1 := Lib.hid (HE.out.get h1 k1)
  have c1 := HE1.out.msg.cell 1; have d1 := HE1.out.msg.frozen 1
  simp only [List.getElem?_toArray, List.getElem?_cons_zero, List.getElem?_cons_succ] at c1
  have HE2 : Hid (DS w (W6.setCell ⟨n0 + 1, 1, none⟩ (.int .i64 (x1 : Int))) n0 B g #[.int .u8 (k : Int), .int .i64 (x1 : Int), .int .i64 0, .int .i64 0, .int .i64 0, .bool false, .slice none 0 0] s2) := HE1.out.set 1 _
  have hw_x1 : IntKind.i64.wrap (x1 : Int) = (x1 : Int) := i64_small x1 (by omega)
  clear h1 k1 hx_x1 hs_x1 HE HE1
  go_upto_region 11 with (fail)
  generalize W6.setCell ⟨n0 + 1, 1, none⟩ (.int .i64 (x1 : Int)) = W7 at *
  have HE := HE2; clear HE2 c1 d1 hw_x1
  clear hk1 hk6 f0
  go_wp2_with fail
  refine (rget_any W7 B g s2 25 25 HE.out.rs rfl (by omega) (by omega)).mono ?_
  rintro e W8 ⟨rfl, h1, k1⟩
  have hlt_x2 := tget_lt 25 (s2)
  obtain ⟨x2, hx_x2⟩ : ∃ y, (tget 25 (s2)).1 = y := ⟨_, rfl⟩
  obtain ⟨s3, hs_x2⟩ : ∃ y, (tget 25 (s2)).2 = y := ⟨_, rfl⟩
  rw [hx_x2] at hlt_x2 ⊢
  rw [hs_x2] at h1
  have HX_x2 : Hid ((tget 25 (s2)).1 = x2 ∧ (tget 25 (s2)).2 = s3) := ⟨hx_x2, hs_x2⟩
  have HE1 := Lib.hid (HE.out.get h1 k1)
  have c2 := HE1.out.msg.cell 2; have d2 := HE1.out.msg.frozen 2
  simp only [List.getElem?_toArray, List.getElem?_cons_zero, List.getElem?_cons_succ] at c2
  have HE2 : Hid (DS w (W8.setCell ⟨n0 + 1, 2, none⟩ (.int .i64 (x2 : Int))) n0 B g #[.int .u8 (k : Int), .int .i64 (x1 : Int), .int .i64 (x2 : Int), .int .i64 0, .int .i64 0, .bool false, .slice none 0 0] s3) := HE1.out.set 2 _
  have hw_x2 : IntKind.i64.wrap (x2 : Int) = (x2 : Int) := i64_small x2 (by omega)
  clear h1 k1 hx_x2 hs_x2 HE HE1
  go_upto_region 12 with (fail)
  generalize W8.setCell ⟨n0 + 1, 2, none⟩ (.int .i64 (x2 : Int)) = W9 at *
  have HE := HE2; clear HE2 c2 d2 hw_x2
  have HT : Hid (trest k s1 = (⟨k, (x1 : Int), (x2 : Int), (trep k s3).1.1, (trep k s3).1.2.1, (trep k s3).1.2.2, (ttrail k (trep k s3).2).1⟩, (ttrail k (trep k s3).2).2)) := by
    show _ = _
    rw [trest_eq, HX_x1.out.2, HX_x2.out.2, HX_x1.out.1, HX_x2.out.1]
  clear HX_x1 HX_x2
  have f0 := HE.out.msg.cell 0
  simp only [List.getElem?_toArray, List.getElem?_cons_zero] at f0
  by_cases hk3 : k = 3
  · have e3 : ((k : Int) == 3) = true := by simp; omega
    have HK3 := Lib.hid hk3; clear hk3
    go_wp2_with fail
    refine (rget_any W9 B g s3 1 1 HE.out.rs rfl (by omega) (by omega)).mono ?_
    rintro e W10 ⟨rfl, h1, k1⟩
    have hlt_y1 := tget_lt 1 (s3)
    obtain ⟨y1, hx_y1⟩ : ∃ y, (tget 1 (s3)).1 = y := ⟨_, rfl⟩
    obtain ⟨s4, hs_y1⟩ : ∃ y, (tget 1 (s3)).2 = y := ⟨_, rfl⟩
    rw [hx_y1] at hlt_y1 ⊢
    rw [hs_y1] at h1
    have HX_y1 : Hid ((tget 1 (s3)).1 = y1 ∧ (tget 1 (s3)).2 = s4) := ⟨hx_y1, hs_y1⟩
    have HE1 := Lib.hid (HE.out.get h1 k1)
    have c3 := HE1.out.msg.cell 3; have d3 := HE1.out.msg.frozen 3
    simp only [List.getElem?_toArray, List.getElem?_cons_zero, List.getElem?_cons_succ] at c3
    have HE2 : Hid (DS w (W10.setCell ⟨n0 + 1, 3, none⟩ (.int .i64 (y1 : Int))) n0 B g #[.int .u8 (k : Int), .int .i64 (x1 : Int), .int .i64 (x2 : Int), .int .i64 (y1 : Int), .int .i64 0, .bool false, .slice none 0 0] s4) := HE1.out.set 3 _
    have hw_y1 : IntKind.i64.wrap (y1 : Int) = (y1 : Int) := i64_small y1 (by omega)
    clear h1 k1 hx_y1 hs_y1 HE HE1
    go_upto_region 14 with (fail)
    generalize W10.setCell ⟨n0 + 1, 3, none⟩ (.int .i64 (y1 : Int)) = W11 at *
    have HE := HE2; clear HE2 c3 d3 hw_y1
    clear f0
    go_wp2_with fail
    refine (rget_any W11 B g s4 14 14 HE.out.rs rfl (by omega) (by omega)).mono ?_
    rintro e W12 ⟨rfl, h1, k1⟩
    have hlt_y2 := tget_lt 14 (s4)
    obtain ⟨y2, hx_y2⟩ : ∃ y, (tget 14 (s4)).1 = y := ⟨_, rfl⟩
    obtain ⟨s5, hs_y2⟩ : ∃ y, (tget 14 (s4)).2 = y := ⟨_, rfl⟩
    rw [hx_y2] at hlt_y2 ⊢
    rw [hs_y2] at h1
    have HX_y2 : Hid ((tget 14 (s4)).1 = y2 ∧ (tget 14 (s4)).2 = s5) := ⟨hx_y2, hs_y2⟩
    have HE1 := Lib.hid (HE.out.get h1 k1)
    have c4 := HE1.out.msg.cell 4; have d4 := HE1.out.msg.frozen 4
    simp only [List.getElem?_toArray, List.getElem?_cons_zero, List.getElem?_cons_succ] at c4
    have HE2 : Hid (DS w (W12.setCell ⟨n0 + 1, 4, none⟩ (.int .i64 (y2 : Int))) n0 B g #[.int .u8 (k : Int), .int .i64 (x1 : Int), .int .i64 (x2 : Int), .int .i64 (y1 : Int), .int .i64 (y2 : Int), .bool false, .slice none 0 0] s5) := HE1.out.set 4 _
    have hw_y2 : IntKind.i64.wrap (y2 : Int) = (y2 : Int) := i64_small y2 (by omega)
    clear h1 k1 hx_y2 hs_y2 HE HE1
    go_upto_region 15 with (fail)
    generalize W12.setCell ⟨n0 + 1, 4, none⟩ (.int .i64 (y2 : Int)) = W13 at *
    have HE := HE2; clear HE2 c4 d4 hw_y2
    go_wp2_with fail
    refine (rflag_any W13 B g s5 HE.out.rs).mono ?_
    rintro e W14 ⟨rfl, h1, k1⟩
    obtain ⟨y3, hx_y3⟩ : ∃ y, decide ((tget 1 s5).1 = 1) = y := ⟨_, rfl⟩
    obtain ⟨s, hs_y3⟩ : ∃ y, (tget 1 s5).2 = y := ⟨_, rfl⟩
    rw [hx_y3]
    rw [hs_y3] at h1
    have HE1 := Lib.hid (HE.out.get h1 k1)
    have c5 := HE1.out.msg.cell 5; have d5 := HE1.out.msg.frozen 5
    simp only [List.getElem?_toArray, List.getElem?_cons_zero, List.getElem?_cons_succ] at c5
    have HE2 : Hid (DS w (W14.setCell ⟨n0 + 1, 5, none⟩ (.bool y3)) n0 B g #[.int .u8 (k : Int), .int .i64 (x1 : Int), .int .i64 (x2 : Int), .int .i64 (y1 : Int), .int .i64 (y2 : Int), .bool y3, .slice none 0 0] s) := HE1.out.set 5 _
    have HTR : Hid (trep k s3 = (((y1 : Int), (y2 : Int), y3), s)) := by
      show _ = _
      rw [HK3.out, trep_yes, HX_y1.out.1, HX_y1.out.2, HX_y2.out.1, HX_y2.out.2, hx_y3, hs_y3]
    clear h1 k1 hx_y3 hs_y3 HE HE1 HX_y1 HX_y2
    go_upto_region 16 with (fail)
    generalize W14.setCell ⟨n0 + 1, 5, none⟩ (.bool y3) = W15 at *
    have HE := HE2; clear HE2 c5 d5
    go_wp2_with fail
    refine (ok_any W15 B g s HE.out.rs).mono ?_
    rintro e w' ⟨rfl, rfl⟩
    cases s with
    | none =>
      go_wp2_with fail
      go_step3
      exact ⟨rfl, rfl, HE.out.res, HE.out.below, by rw [← HRR.out, HF.out]; refine fin_none ?_; rw [HT.out, HTR.out]; exact strict_trail k⟩
    | some l0 =>
      have f0 := HE.out.msg.cell 0
      simp only [List.getElem?_toArray, List.getElem?_cons_zero] at f0
      go_wp2_with fail
      refine (hasTrail_any k W15).mono ?_
      rintro e w' ⟨rfl, rfl⟩
      clear f0
      have hc : hasT k = true := by rw [HK3.out]; rfl
      rw [hc]
      have HTT : Hid (trest k s1 = (⟨k, (x1 : Int), (x2 : Int), (y1 : Int), (y2 : Int), y3, (tmany tone (tget 4 (some l0)).1 (tget 4 (some l0)).2).1⟩, (tmany tone (tget 4 (some l0)).1 (tget 4 (some l0)).2).2)) := by show _ = _; rw [HT.out, HTR.out, ttrail_yes hc]
      clear HT HTR hc
      go_wp2_with fail
      refine (rget_any W15 B g (some l0) 4 4 HE.out.rs rfl (by omega) (by omega)).mono ?_
      rintro e V1 ⟨rfl, h1, k1⟩
      have hlt_n := tget_lt 4 (some l0)
      obtain ⟨n, hx_n⟩ : ∃ y, (tget 4 (some l0)).1 = y := ⟨_, rfl⟩
      obtain ⟨r, hs_n⟩ : ∃ y, (tget 4 (some l0)).2 = y := ⟨_, rfl⟩
      rw [hx_n, hs_n] at HTT
      rw [hx_n] at hlt_n ⊢
      rw [hs_n] at h1
      have HE1 := Lib.hid (HE.out.get h1 k1)
      clear h1 k1 hx_n hs_n HE
      have hn16 : n < 16 := by omega
      clear hlt_n
      have HSZ : Hid (n0 + 1 < V1.heap.size ∧ n0 ≤ V1.heap.size) := ⟨HE1.out.msg.lt, Nat.le_of_lt HE1.out.res.lt⟩
      go_wp2_with fail
      go_loopw [65] (fun c wr => ∃ i : Nat, i ≤ n ∧ c = .int .u64 (i : Int) ∧ Hid (∃ vt, DS w wr n0 B g #[.int .u8 (k : Int), .int .i64 (x1 : Int), .int .i64 (x2 : Int), .int .i64 (y1 : Int), .int .i64 (y2 : Int), .bool y3, vt] (tmany tone i r).2 ∧ wr.ownsRow V1.heap.size 3 1 vt i (ivals (tmany tone i r).1) ∧ V1.heap.size ≤ wr.heap.size)) (fun c _ => n - (intOf c).toNat)
      case atStart => exact ⟨0, Nat.zero_le _, rfl, .slice none 0 0, HE1.out, World.ownsRow_nil _ _ _ _, Nat.le_refl _⟩
      case round =>
        obtain ⟨i, hi, rfl, HI⟩ := hrel
        obtain ⟨vt, hds, hown, hsz⟩ := HI.out
        obtain ⟨At, ct, hvt⟩ := own_slice hown
        subst hvt
        have HE := Lib.hid hds; have HO := Lib.hid hown; have HWZ := Lib.hid hsz
        clear hds hown hsz HI
        by_cases hlt : i < n
        · go_upto_region 20 with (fail)
          have d1 := HE.out.msg.cell 6
          simp only [List.getElem?_toArray, List.getElem?_cons_zero, List.getElem?_cons_succ] at d1
          refine AnyBut.region (fun w' => w'.cell? ⟨n0 + 1, 6, none⟩ = some (.slice At i ct)) 8 (by kernel_rfl) ?_
          refine AnyBut.take 0 rfl (by kernel_rfl) (by kernel_rfl) (by kernel_rfl) (by kernel_rfl) (by decide) (fun _ _ _ h => h) (yields_of (by rfl) (fun w9 hS => (by have s1 := hS; go_simp; try rfl))) d1 ?_
          refine AnyBut.take 1 rfl (by kernel_rfl) (by kernel_rfl) (by kernel_rfl) (by kernel_rfl) (by decide) (fun _ _ _ h => h) (yields_of (by rfl) (fun w9 hS => (by have s1 := hS; go_simp; try rfl))) d1 ?_
          refine AnyBut.take 2 rfl (by kernel_rfl) (by kernel_rfl) (by kernel_rfl) (by kernel_rfl) (by decide) (fun _ _ _ h => h) (yields_of (by rfl) (fun w9 hS => (by have s1 := hS; go_simp; try rfl))) d1 ?_
          refine AnyBut.one 3 rfl (by kernel_rfl) (by rfl) ?_
          go_simp
          have HED : Hid (DS w wr.drew n0 B g #[.int .u8 (k : Int), .int .i64 (x1 : Int), .int .i64 (x2 : Int), .int .i64 (y1 : Int), .int .i64 (y2 : Int), .bool y3, .slice At i ct] (tmany tone i r).2) := HE.out.drewN 1
          have HOD : Hid (wr.drew.ownsRow V1.heap.size 3 1 (.slice At i ct) i (ivals (tmany tone i r).1)) := HO.out
          have HWD : Hid (V1.heap.size ≤ wr.drew.heap.size) := HWZ.out
          clear HE HO HWZ d1
          generalize wr.drew = wd at *
          refine (rget_any wd B g (tmany tone i r).2 6 6 HED.out.rs rfl (by omega) (by omega)).mono ?_
          rintro e w1 ⟨rfl, h1, k1⟩
          have hlt_y := tget_lt 6 (tmany tone i r).2
          obtain ⟨y, hx_y⟩ : ∃ y, (tget 6 (tmany tone i r).2).1 = y := ⟨_, rfl⟩
          rw [hx_y] at hlt_y ⊢
          obtain ⟨cg, hg⟩ := HED.out.rs.row
          have HE7 := Lib.hid (HED.out.get h1 k1)
          have HO7 := Lib.hid (own_keptL HOD.out k1 (Other.one hg (by decide)))
          have HW7 : Hid (V1.heap.size ≤ w1.heap.size) := Nat.le_trans HWD.out k1.size
          have HSN : Hid (ivals (tmany tone i r).1 ++ [.int .i64 (y : Int)] = ivals (tmany tone (i + 1) r).1 ∧ (tget 6 (tmany tone i r).2).2 = (tmany tone (i + 1) r).2) := by
            refine ⟨?_, rfl⟩
            rw [many_one, hx_y, ivals_snoc]
          have hwy : IntKind.i64.wrap (y : Int) = (y : Int) := i64_small y (by omega)
          clear h1 k1 hg hx_y hlt_y HED HOD HWD
          rw [HSN.out.2] at HE7
          have u1 := HE7.out.msg.cell 6
          simp only [List.getElem?_toArray, List.getElem?_cons_zero, List.getElem?_cons_succ] at u1
          refine ⟨u1, ?_⟩
          refine AnyBut.one 4 rfl (by kernel_rfl) (by rfl) ?_
          go_simp
          refine AnyBut.one 5 rfl (by kernel_rfl) (by rfl) ?_
          go_simp
          refine ⟨cell_alloc u1, ?_⟩
          have hbA := (Below.refl w1.heap.size w1).alloc (Nat.le_refl _) (.cells #[.int .i64 (y : Int)] 3)
          have HE8 : Hid (DS w (w1.alloc (.cells #[.int .i64 (y : Int)] 3)) n0 B g #[.int .u8 (k : Int), .int .i64 (x1 : Int), .int .i64 (x2 : Int), .int .i64 (y1 : Int), .int .i64 (y2 : Int), .bool y3, .slice At i ct] (tmany tone (i + 1) r).2) := HE7.out.get (HE7.out.rs.fresh hbA) (KeptL.of_below hbA)
          have HO8 := Lib.hid (HO7.out.alloc (.cells #[.int .i64 (y : Int)] 3))
          have HW8 : Hid (V1.heap.size ≤ (w1.alloc (.cells #[.int .i64 (y : Int)] 3)).heap.size) := Nat.le_trans HW7.out hbA.size
          have HN8 : Hid (∀ (j : Nat) (u : Value), [.int .i64 (y : Int)][j]? = some u → (w1.alloc (.cells #[.int .i64 (y : Int)] 3)).cell? ((⟨w1.heap.size, 0, none⟩ : Addr).add j) = some u) := row_new w1 3 [.int .i64 (y : Int)]
          generalize w1.alloc (.cells #[.int .i64 (y : Int)] 3) = wB at *
          generalize w1.heap.size = gA at *
          clear u1 HE7 HO7 HW7 hbA hwy
          refine AnyBut.one 6 rfl (by kernel_rfl) (by rfl) ?_
          refine wp_append_lies wB (.tmp 68) (.tmp 72) 27 rfl V1.heap.size 3 i3 (.int .i64 0) 1 8 Try.underlying27 hi3 hz30 hz31 hz32 rfl (by decide) (.slice At i ct) i _ (by rfl) HO8.out ⟨gA, 0, none⟩ 1 1 [.int .i64 (y : Int)] (by rfl) rfl HN8.out (by intro u hu; simp at hu; subst hu; rfl) (by decide) (by unfold maxLen; omega) (by omega) HW8.out wB.heap.size rfl ?_
          intro g5 c5 w5 hown5 hgrow5 _ _
          rw [HSN.out.1] at hown5
          have hrb : ∀ k, (Value.slice At i ct).ownBlock = some k → V1.heap.size ≤ k := fun k hk => (HO8.out.lt k hk).1
          obtain ⟨cg, hg⟩ := HE8.out.rs.row
          have hgr := KeptL.of_grown hgrow5
          have hnd : ∀ k, k < V1.heap.size → k ∉ (Value.slice At i ct).ownBlock.toList := fun k hk hm => by
            have := hrb k (by simpa using hm)
            omega
          have hoth : ∀ t, t ≠ 3 → Other wB t (Value.slice At i ct).ownBlock.toList := own_other HO8.out
          have e9 : DS w w5 n0 B g #[.int .u8 (k : Int), .int .i64 (x1 : Int), .int .i64 (x2 : Int), .int .i64 (y1 : Int), .int .i64 (y2 : Int), .bool y3, .slice At i ct] (tmany tone (i + 1) r).2 :=
            ⟨hgr.row HE8.out.res (hnd _ (by have := HSZ.out; omega)), hgr.row HE8.out.msg (hnd _ HSZ.out.1), HE8.out.rs.keptL hgr (hoth 5 (by decide)) ((hoth 72 (by decide)).ne hg),
              HE8.out.below.grown hgrow5 (Nat.le_of_lt HE8.out.res.lt) (fun k hk => Nat.le_trans HSZ.out.2 (hrb k hk)), HE8.out.gn⟩
          have hsz9 : V1.heap.size ≤ w5.heap.size := Nat.le_trans HW8.out hgr.size
          have u1 := e9.msg.cell 6; have z9 := e9.msg.frozen 6
          simp only [List.getElem?_toArray, List.getElem?_cons_zero, List.getElem?_cons_succ] at u1
          refine ⟨fun _ => u1, ?_⟩
          have HNX : Hid (∃ vt, DS w (w5.setCell ⟨n0 + 1, 6, none⟩ (.slice (some ⟨g5, 0, none⟩) (i + 1) c5)) n0 B g #[.int .u8 (k : Int), .int .i64 (x1 : Int), .int .i64 (x2 : Int), .int .i64 (y1 : Int), .int .i64 (y2 : Int), .bool y3, vt] (tmany tone (i + 1) r).2 ∧ (w5.setCell ⟨n0 + 1, 6, none⟩ (.slice (some ⟨g5, 0, none⟩) (i + 1) c5)).ownsRow V1.heap.size 3 1 vt (i + 1) (ivals (tmany tone (i + 1) r).1) ∧ V1.heap.size ≤ (w5.setCell ⟨n0 + 1, 6, none⟩ (.slice (some ⟨g5, 0, none⟩) (i + 1) c5)).heap.size) :=
            ⟨_, e9.set 6 _, own_far (a := ⟨n0 + 1, 6, none⟩) hown5 (fun e => by have h1 := (hown5.lt (n0 + 1) e).1; have h2 := HSZ.out.1; omega) _, by simpa [World.setCell] using hsz9⟩
          clear hown5 hgrow5 hrb e9 hgr hnd hoth hg hsz9
          refine AnyBut.one 7 rfl (by kernel_rfl) (by rfl) ?_
          go_simp
          refine AnyBut.one 8 rfl (by kernel_rfl) (by rfl) ?_
          go_simp
          refine AnyBut.done (by kernel_rfl) ?_
          clear u1 z9
          go_wp2_with fail
          go_roundw
          case rel => exact ⟨i + 1, by omega, by go_num, HNX⟩
          case measure => simp [intOf]; omega
        · have HIN : Hid (i = n) := by show _ = _; omega
          have HIS : Hid (tmany tone i r = tmany tone n r) := by show _ = _; rw [HIN.out]
          rw [HIS.out] at HE HO
          obtain ⟨sf, hsf⟩ : ∃ y, (tmany tone n r).2 = y := ⟨_, rfl⟩
          obtain ⟨lf, hlf⟩ : ∃ y, (tmany tone n r).1 = y := ⟨_, rfl⟩
          rw [hsf] at HE HTT
          rw [hlf] at HO HTT
          have HLF : Hid (lf.length = i) := by show _ = _; rw [← hlf, tmany_length]; exact HIN.out.symm
          clear HIS hsf hlf
          go_wp2_with fail
          refine (ok_any wr B g sf HE.out.rs).mono ?_
          rintro e w' ⟨rfl, rfl⟩
          cases sf with
          | none =>
            go_wp2_with fail
            go_step3
            exact ⟨rfl, rfl, HE.out.res, HE.out.below, by rw [← HRR.out, HF.out]; exact fin_none (by rw [HTT.out])⟩
          | some l1 =>
            go_wp2_with fail
            refine (rend_any wr B g l1 HE.out.rs).mono ?_
            rintro e WE ⟨rfl, mE, hWE⟩
            have HE3 : Hid (DS w WE n0 B g #[.int .u8 (k : Int), .int .i64 (x1 : Int), .int .i64 (x2 : Int), .int .i64 (y1 : Int), .int .i64 (y2 : Int), .bool y3, .slice At i ct] (some l1)) := by rw [hWE]; exact HE.out.drewN mE
            have HO3 : Hid (WE.ownsRow V1.heap.size 3 1 (.slice At i ct) i (ivals lf)) := by rw [hWE]; exact HO.out
            clear hWE HE HO
            have HE := HE3; have HO := HO3; clear HE3 HO3
            cases he : endB l1 with
            | false =>
              have hz := HE.out.res
              have q0 := hz.cell 0; have r0 := hz.frozen 0
              have q1 := hz.cell 1; have r1 := hz.frozen 1
              have q2 := hz.cell 2; have r2 := hz.frozen 2
              have q3 := hz.cell 3; have r3 := hz.frozen 3
              have q4 := hz.cell 4; have r4 := hz.frozen 4
              have q5 := hz.cell 5; have r5 := hz.frozen 5
              have q6 := hz.cell 6; have r6 := hz.frozen 6
              simp only [List.getElem?_toArray, List.getElem?_cons_zero, List.getElem?_cons_succ] at q0 q1 q2 q3 q4 q5 q6
              go_wp2_with fail
              simp only [Exit.jump]
              have hp := put7 hz (.int .u8 0) (.int .i64 0) (.int .i64 0) (.int .i64 0) (.int .i64 0) (.bool false) (.slice none 0 0)
              refine bodyPost_ret (results_cell_tmp_row rfl _ _ n0 29 #[.int .u8 0, .int .i64 0, .int .i64 0, .int .i64 0, .int .i64 0, .bool false, .slice none 0 0] (0, 0) _ rfl hp.1 Try.underlying29 rfl Try.size29) rfl ?_
              have hdec : R = (M0, 2) := by rw [← HRR.out]; rw [HF.out]; exact fin_bad (by rw [HTT.out]) he
              rw [hdec]
              exact ⟨_, rfl, msg0 _ _, by rw [← HN0.out]; exact HE.out.below.trans hp.2.1⟩
            | true =>
              have hz := HE.out.res
              have q0 := hz.cell 0; have r0 := hz.frozen 0
              have q1 := hz.cell 1; have r1 := hz.frozen 1
              have q2 := hz.cell 2; have r2 := hz.frozen 2
              have q3 := hz.cell 3; have r3 := hz.frozen 3
              have q4 := hz.cell 4; have r4 := hz.frozen 4
              have q5 := hz.cell 5; have r5 := hz.frozen 5
              have q6 := hz.cell 6; have r6 := hz.frozen 6
              simp only [List.getElem?_toArray, List.getElem?_cons_zero, List.getElem?_cons_succ] at q0 q1 q2 q3 q4 q5 q6
              have hy := HE.out.msg
              have yy0 := hy.cell 0
              have yy1 := hy.cell 1
              have yy2 := hy.cell 2
              have yy3 := hy.cell 3
              have yy4 := hy.cell 4
              have yy5 := hy.cell 5
              have yy6 := hy.cell 6
              simp only [List.getElem?_toArray, List.getElem?_cons_zero, List.getElem?_cons_succ] at yy0 yy1 yy2 yy3 yy4 yy5 yy6
              go_wp2_with fail
              simp only [Exit.jump]
              have hp := put7 hz (.int .u8 (k : Int)) (.int .i64 (x1 : Int)) (.int .i64 (x2 : Int)) (.int .i64 (y1 : Int)) (.int .i64 (y2 : Int)) (.bool y3) (.slice At i ct)
              refine bodyPost_ret (results_cell_tmp_row rfl _ _ n0 29 #[.int .u8 (k : Int), .int .i64 (x1 : Int), .int .i64 (x2 : Int), .int .i64 (y1 : Int), .int .i64 (y2 : Int), .bool y3, .slice At i ct] (0, 0) _ rfl hp.1 Try.underlying29 rfl Try.size29) rfl ?_
              have hdec : R = (⟨k, (x1 : Int), (x2 : Int), (y1 : Int), (y2 : Int), y3, lf⟩, 0) := by rw [← HRR.out, HF.out, fin_ok (l := l1) (by rw [HTT.out]) he, HTT.out]
              rw [hdec]
              exact ⟨_, rfl, ⟨_, rfl, Rd.of_own (own_keptL HO.out hp.2.2 (Other.one hz (by decide)))⟩, by rw [← HN0.out]; exact HE.out.below.trans hp.2.1⟩
  · have e3 : ((k : Int) == 3) = false := by simp; omega
    have HTR : Hid (trep k s3 = (((0 : Int), (0 : Int), false), s3)) := trep_no hk3 s3
    obtain ⟨s, hs⟩ : ∃ s, s = s3 := ⟨_, rfl⟩
    rw [← hs] at HE
    have HTR2 : Hid (trep k s3 = (((0 : Int), (0 : Int), false), s)) := by rw [hs]; exact HTR.out
    clear HTR hs
    have HTR := HTR2; clear HTR2
    go_wp2_with fail
    refine (ok_any W9 B g s HE.out.rs).mono ?_
    rintro e w' ⟨rfl, rfl⟩
    cases s with
    | none =>
      go_wp2_with fail
      go_step3
      exact ⟨rfl, rfl, HE.out.res, HE.out.below, by rw [← HRR.out, HF.out]; refine fin_none ?_; rw [HT.out, HTR.out]; exact strict_trail k⟩
    | some l0 =>
      have f0 := HE.out.msg.cell 0
      simp only [List.getElem?_toArray, List.getElem?_cons_zero] at f0
      go_wp2_with fail
      refine (hasTrail_any k W9).mono ?_
      rintro e w' ⟨rfl, rfl⟩
      clear f0
      cases hc : hasT k with
      | false =>
        have HTT : Hid (trest k s1 = (⟨k, (x1 : Int), (x2 : Int), (0 : Int), (0 : Int), false, []⟩, some l0)) := by show _ = _; rw [HT.out, HTR.out, ttrail_no hc]
        clear HT HTR hc
        go_wp2_with fail
        refine (rend_any W9 B g l0 HE.out.rs).mono ?_
        rintro e WE ⟨rfl, mE, hWE⟩
        have HE3 : Hid (DS w WE n0 B g #[.int .u8 (k : Int), .int .i64 (x1 : Int), .int .i64 (x2 : Int), .int .i64 0, .int .i64 0, .bool false, .slice none 0 0] (some l0)) := by rw [hWE]; exact HE.out.drewN mE
        clear hWE HE
        have HE := HE3; clear HE3
        cases he : endB l0 with
        | false =>
          have hz := HE.out.res
          have q0 := hz.cell 0; have r0 := hz.frozen 0
          have q1 := hz.cell 1; have r1 := hz.frozen 1
          have q2 := hz.cell 2; have r2 := hz.frozen 2
          have q3 := hz.cell 3; have r3 := hz.frozen 3
          have q4 := hz.cell 4; have r4 := hz.frozen 4
          have q5 := hz.cell 5; have r5 := hz.frozen 5
          have q6 := hz.cell 6; have r6 := hz.frozen 6
          simp only [List.getElem?_toArray, List.getElem?_cons_zero, List.getElem?_cons_succ] at q0 q1 q2 q3 q4 q5 q6
          go_wp2_with fail
          simp only [Exit.jump]
          have hp := put7 hz (.int .u8 0) (.int .i64 0) (.int .i64 0) (.int .i64 0) (.int .i64 0) (.bool false) (.slice none 0 0)
          refine bodyPost_ret (results_cell_tmp_row rfl _ _ n0 29 #[.int .u8 0, .int .i64 0, .int .i64 0, .int .i64 0, .int .i64 0, .bool false, .slice none 0 0] (0, 0) _ rfl hp.1 Try.underlying29 rfl Try.size29) rfl ?_
          have hdec : R = (M0, 2) := by rw [← HRR.out]; rw [HF.out]; exact fin_bad (by rw [HTT.out]) he
          rw [hdec]
          exact ⟨_, rfl, msg0 _ _, by rw [← HN0.out]; exact HE.out.below.trans hp.2.1⟩
        | true =>
          have hz := HE.out.res
          have q0 := hz.cell 0; have r0 := hz.frozen 0
          have q1 := hz.cell 1; have r1 := hz.frozen 1
          have q2 := hz.cell 2; have r2 := hz.frozen 2
          have q3 := hz.cell 3; have r3 := hz.frozen 3
          have q4 := hz.cell 4; have r4 := hz.frozen 4
          have q5 := hz.cell 5; have r5 := hz.frozen 5
          have q6 := hz.cell 6; have r6 := hz.frozen 6
          simp only [List.getElem?_toArray, List.getElem?_cons_zero, List.getElem?_cons_succ] at q0 q1 q2 q3 q4 q5 q6
          have hy := HE.out.msg
          have yy0 := hy.cell 0
          have yy1 := hy.cell 1
          have yy2 := hy.cell 2
          have yy3 := hy.cell 3
          have yy4 := hy.cell 4
          have yy5 := hy.cell 5
          have yy6 := hy.cell 6
          simp only [List.getElem?_toArray, List.getElem?_cons_zero, List.getElem?_cons_succ] at yy0 yy1 yy2 yy3 yy4 yy5 yy6
          go_wp2_with fail
          simp only [Exit.jump]
          have hp := put7 hz (.int .u8 (k : Int)) (.int .i64 (x1 : Int)) (.int .i64 (x2 : Int)) (.int .i64 0) (.int .i64 0) (.bool false) (.slice none 0 0)
          refine bodyPost_ret (results_cell_tmp_row rfl _ _ n0 29 #[.int .u8 (k : Int), .int .i64 (x1 : Int), .int .i64 (x2 : Int), .int .i64 0, .int .i64 0, .bool false, .slice none 0 0] (0, 0) _ rfl hp.1 Try.underlying29 rfl Try.size29) rfl ?_
          have hdec : R = (⟨k, (x1 : Int), (x2 : Int), (0 : Int), (0 : Int), false, []⟩, 0) := by rw [← HRR.out, HF.out, fin_ok (l := l0) (by rw [HTT.out]) he, HTT.out]
          rw [hdec]
          exact ⟨_, rfl, ⟨.slice none 0 0, rfl, Rd.empty _ _⟩, by rw [← HN0.out]; exact HE.out.below.trans hp.2.1⟩
      | true =>
        have HTT : Hid (trest k s1 = (⟨k, (x1 : Int), (x2 : Int), (0 : Int), (0 : Int), false, (tmany tone (tget 4 (some l0)).1 (tget 4 (some l0)).2).1⟩, (tmany tone (tget 4 (some l0)).1 (tget 4 (some l0)).2).2)) := by show _ = _; rw [HT.out, HTR.out, ttrail_yes hc]
        clear HT HTR hc
        go_wp2_with fail
        refine (rget_any W9 B g (some l0) 4 4 HE.out.rs rfl (by omega) (by omega)).mono ?_
        rintro e V1 ⟨rfl, h1, k1⟩
        have hlt_n := tget_lt 4 (some l0)
        obtain ⟨n, hx_n⟩ : ∃ y, (tget 4 (some l0)).1 = y := ⟨_, rfl⟩
        obtain ⟨r, hs_n⟩ : ∃ y, (tget 4 (some l0)).2 = y := ⟨_, rfl⟩
        rw [hx_n, hs_n] at HTT
        rw [hx_n] at hlt_n ⊢
        rw [hs_n] at h1
        have HE1 := Lib.hid (HE.out.get h1 k1)
        clear h1 k1 hx_n hs_n HE
        have hn16 : n < 16 := by omega
        clear hlt_n
        have HSZ : Hid (n0 + 1 < V1.heap.size ∧ n0 ≤ V1.heap.size) := ⟨HE1.out.msg.lt, Nat.le_of_lt HE1.out.res.lt⟩
        go_wp2_with fail
        go_loopw [65] (fun c wr => ∃ i : Nat, i ≤ n ∧ c = .int .u64 (i : Int) ∧ Hid (∃ vt, DS w wr n0 B g #[.int .u8 (k : Int), .int .i64 (x1 : Int), .int .i64 (x2 : Int), .int .i64 0, .int .i64 0, .bool false, vt] (tmany tone i r).2 ∧ wr.ownsRow V1.heap.size 3 1 vt i (ivals (tmany tone i r).1) ∧ V1.heap.size ≤ wr.heap.size)) (fun c _ => n - (intOf c).toNat)
        case atStart => exact ⟨0, Nat.zero_le _, rfl, .slice none 0 0, HE1.out, World.ownsRow_nil _ _ _ _, Nat.le_refl _⟩
        case round =>
          obtain ⟨i, hi, rfl, HI⟩ := hrel
          obtain ⟨vt, hds, hown, hsz⟩ := HI.out
          obtain ⟨At, ct, hvt⟩ := own_slice hown
          subst hvt
          have HE := Lib.hid hds; have HO := Lib.hid hown; have HWZ := Lib.hid hsz
          clear hds hown hsz HI
          by_cases hlt : i < n
          · go_upto_region 20 with (fail)
            have d1 := HE.out.msg.cell 6
            simp only [List.getElem?_toArray, List.getElem?_cons_zero, List.getElem?_cons_succ] at d1
            refine AnyBut.region (fun w' => w'.cell? ⟨n0 + 1, 6, none⟩ = some (.slice At i ct)) 8 (by kernel_rfl) ?_
            refine AnyBut.take 0 rfl (by kernel_rfl) (by kernel_rfl) (by kernel_rfl) (by kernel_rfl) (by decide) (fun _ _ _ h => h) (yields_of (by rfl) (fun w9 hS => (by have s1 := hS; go_simp; try rfl))) d1 ?_
            refine AnyBut.take 1 rfl (by kernel_rfl) (by kernel_rfl) (by kernel_rfl) (by kernel_rfl) (by decide) (fun _ _ _ h => h) (yields_of (by rfl) (fun w9 hS => (by have s1 := hS; go_simp; try rfl))) d1 ?_
            refine AnyBut.take 2 rfl (by kernel_rfl) (by kernel_rfl) (by kernel_rfl) (by kernel_rfl) (by decide) (fun _ _ _ h => h) (yields_of (by rfl) (fun w9 hS => (by have s1 := hS; go_simp; try rfl))) d1 ?_
            refine AnyBut.one 3 rfl (by kernel_rfl) (by rfl) ?_
            go_simp
            have HED : Hid (DS w wr.drew n0 B g #[.int .u8 (k : Int), .int .i64 (x1 : Int), .int .i64 (x2 : Int), .int .i64 0, .int .i64 0, .bool false, .slice At i ct] (tmany tone i r).2) := HE.out.drewN 1
            have HOD : Hid (wr.drew.ownsRow V1.heap.size 3 1 (.slice At i ct) i (ivals (tmany tone i r).1)) := HO.out
            have HWD : Hid (V1.heap.size ≤ wr.drew.heap.size) := HWZ.out
            clear HE HO HWZ d1
            generalize wr.drew = wd at *
            refine (rget_any wd B g (tmany tone i r).2 6 6 HED.out.rs rfl (by omega) (by omega)).mono ?_
            rintro e w1 ⟨rfl, h1, k1⟩
            have hlt_y := tget_lt 6 (tmany tone i r).2
            obtain ⟨y, hx_y⟩ : ∃ y, (tget 6 (tmany tone i r).2).1 = y := ⟨_, rfl⟩
            rw [hx_y] at hlt_y ⊢
            obtain ⟨cg, hg⟩ := HED.out.rs.row
            have HE7 := Lib.hid (HED.out.get h1 k1)
            have HO7 := Lib.hid (own_keptL HOD.out k1 (Other.one hg (by decide)))
            have HW7 : Hid (V1.heap.size ≤ w1.heap.size) := Nat.le_trans HWD.out k1.size
            have HSN : Hid (ivals (tmany tone i r).1 ++ [.int .i64 (y : Int)] = ivals (tmany tone (i + 1) r).1 ∧ (tget 6 (tmany tone i r).2).2 = (tmany tone (i + 1) r).2) := by
              refine ⟨?_, rfl⟩
              rw [many_one, hx_y, ivals_snoc]
            have hwy : IntKind.i64.wrap (y : Int) = (y : Int) := i64_small y (by omega)
            clear h1 k1 hg hx_y hlt_y HED HOD HWD
            rw [HSN.out.2] at HE7
            have u1 := HE7.out.msg.cell 6
            simp only [List.getElem?_toArray, List.getElem?_cons_zero, List.getElem?_cons_succ] at u1
            refine ⟨u1, ?_⟩
            refine AnyBut.one 4 rfl (by kernel_rfl) (by rfl) ?_
            go_simp
            refine AnyBut.one 5 rfl (by kernel_rfl) (by rfl) ?_
            go_simp
            refine ⟨cell_alloc u1, ?_⟩
            have hbA := (Below.refl w1.heap.size w1).alloc (Nat.le_refl _) (.cells #[.int .i64 (y : Int)] 3)
            have HE8 : Hid (DS w (w1.alloc (.cells #[.int .i64 (y : Int)] 3)) n0 B g #[.int .u8 (k : Int), .int .i64 (x1 : Int), .int .i64 (x2 : Int), .int .i64 0, .int .i64 0, .bool false, .slice At i ct] (tmany tone (i + 1) r).2) := HE7.out.get (HE7.out.rs.fresh hbA) (KeptL.of_below hbA)
            have HO8 := Lib.hid (HO7.out.alloc (.cells #[.int .i64 (y : Int)] 3))
            have HW8 : Hid (V1.heap.size ≤ (w1.alloc (.cells #[.int .i64 (y : Int)] 3)).heap.size) := Nat.le_trans HW7.out hbA.size
            have HN8 : Hid (∀ (j : Nat) (u : Value), [.int .i64 (y : Int)][j]? = some u → (w1.alloc (.cells #[.int .i64 (y : Int)] 3)).cell? ((⟨w1.heap.size, 0, none⟩ : Addr).add j) = some u) := row_new w1 3 [.int .i64 (y : Int)]
            generalize w1.alloc (.cells #[.int .i64 (y : Int)] 3) = wB at *
            generalize w1.heap.size = gA at *
            clear u1 HE7 HO7 HW7 hbA hwy
            refine AnyBut.one 6 rfl (by kernel_rfl) (by rfl) ?_
            refine wp_append_lies wB (.tmp 68) (.tmp 72) 27 rfl V1.heap.size 3 i3 (.int .i64 0) 1 8 Try.underlying27 hi3 hz30 hz31 hz32 rfl (by decide) (.slice At i ct) i _ (by rfl) HO8.out ⟨gA, 0, none⟩ 1 1 [.int .i64 (y : Int)] (by rfl) rfl HN8.out (by intro u hu; simp at hu; subst hu; rfl) (by decide) (by unfold maxLen; omega) (by omega) HW8.out wB.heap.size rfl ?_
            intro g5 c5 w5 hown5 hgrow5 _ _
            rw [HSN.out.1] at hown5
            have hrb : ∀ k, (Value.slice At i ct).ownBlock = some k → V1.heap.size ≤ k := fun k hk => (HO8.out.lt k hk).1
            obtain ⟨cg, hg⟩ := HE8.out.rs.row
            have hgr := KeptL.of_grown hgrow5
            have hnd : ∀ k, k < V1.heap.size → k ∉ (Value.slice At i ct).ownBlock.toList := fun k hk hm => by
              have := hrb k (by simpa using hm)
              omega
            have hoth : ∀ t, t ≠ 3 → Other wB t (Value.slice At i ct).ownBlock.toList := own_other HO8.out
            have e9 : DS w w5 n0 B g #[.int .u8 (k : Int), .int .i64 (x1 : Int), .int .i64 (x2 : Int), .int .i64 0, .int .i64 0, .bool false, .slice At i ct] (tmany tone (i + 1) r).2 :=
              ⟨hgr.row HE8.out.res (hnd _ (by have := HSZ.out; omega)), hgr.row HE8.out.msg (hnd _ HSZ.out.1), HE8.out.rs.keptL hgr (hoth 5 (by decide)) ((hoth 72 (by decide)).ne hg),
                HE8.out.below.grown hgrow5 (Nat.le_of_lt HE8.out.res.lt) (fun k hk => Nat.le_trans HSZ.out.2 (hrb k hk)), HE8.out.gn⟩
            have hsz9 : V1.heap.size ≤ w5.heap.size := Nat.le_trans HW8.out hgr.size
            have u1 := e9.msg.cell 6; have z9 := e9.msg.frozen 6
            simp only [List.getElem?_toArray, List.getElem?_cons_zero, List.getElem?_cons_succ] at u1
            refine ⟨fun _ => u1, ?_⟩
            have HNX : Hid (∃ vt, DS w (w5.setCell ⟨n0 + 1, 6, none⟩ (.slice (some ⟨g5, 0, none⟩) (i + 1) c5)) n0 B g #[.int .u8 (k : Int), .int .i64 (x1 : Int), .int .i64 (x2 : Int), .int .i64 0, .int .i64 0, .bool false, vt] (tmany tone (i + 1) r).2 ∧ (w5.setCell ⟨n0 + 1, 6, none⟩ (.slice (some ⟨g5, 0, none⟩) (i + 1) c5)).ownsRow V1.heap.size 3 1 vt (i + 1) (ivals (tmany tone (i + 1) r).1) ∧ V1.heap.size ≤ (w5.setCell ⟨n0 + 1, 6, none⟩ (.slice (some ⟨g5, 0, none⟩) (i + 1) c5)).heap.size) :=
              ⟨_, e9.set 6 _, own_far (a := ⟨n0 + 1, 6, none⟩) hown5 (fun e => by have h1 := (hown5.lt (n0 + 1) e).1; have h2 := HSZ.out.1; omega) _, by simpa [World.setCell] using hsz9⟩
            clear hown5 hgrow5 hrb e9 hgr hnd hoth hg hsz9
            refine AnyBut.one 7 rfl (by kernel_rfl) (by rfl) ?_
            go_simp
            refine AnyBut.one 8 rfl (by kernel_rfl) (by rfl) ?_
            go_simp
            refine AnyBut.done (by kernel_rfl) ?_
            clear u1 z9
            go_wp2_with fail
            go_roundw
            case rel => exact ⟨i + 1, by omega, by go_num, HNX⟩
            case measure => simp [intOf]; omega
          · have HIN : Hid (i = n) := by show _ = _; omega
            have HIS : Hid (tmany tone i r = tmany tone n r) := by show _ = _; rw [HIN.out]
            rw [HIS.out] at HE HO
            obtain ⟨sf, hsf⟩ : ∃ y, (tmany tone n r).2 = y := ⟨_, rfl⟩
            obtain ⟨lf, hlf⟩ : ∃ y, (tmany tone n r).1 = y := ⟨_, rfl⟩
            rw [hsf] at HE HTT
            rw [hlf] at HO HTT
            have HLF : Hid (lf.length = i) := by show _ = _; rw [← hlf, tmany_length]; exact HIN.out.symm
            clear HIS hsf hlf
            go_wp2_with fail
            refine (ok_any wr B g sf HE.out.rs).mono ?_
            rintro e w' ⟨rfl, rfl⟩
            cases sf with
            | none =>
              go_wp2_with fail
              go_step3
              exact ⟨rfl, rfl, HE.out.res, HE.out.below, by rw [← HRR.out, HF.out]; exact fin_none (by rw [HTT.out])⟩
            | some l1 =>
              go_wp2_with fail
              refine (rend_any wr B g l1 HE.out.rs).mono ?_
              rintro e WE ⟨rfl, mE, hWE⟩
              have HE3 : Hid (DS w WE n0 B g #[.int .u8 (k : Int), .int .i64 (x1 : Int), .int .i64 (x2 : Int), .int .i64 0, .int .i64 0, .bool false, .slice At i ct] (some l1)) := by rw [hWE]; exact HE.out.drewN mE
              have HO3 : Hid (WE.ownsRow V1.heap.size 3 1 (.slice At i ct) i (ivals lf)) := by rw [hWE]; exact HO.out
              clear hWE HE HO
              have HE := HE3; have HO := HO3; clear HE3 HO3
              cases he : endB l1 with
              | false =>
                have hz := HE.out.res
                have q0 := hz.cell 0; have r0 := hz.frozen 0
                have q1 := hz.cell 1; have r1 := hz.frozen 1
                have q2 := hz.cell 2; have r2 := hz.frozen 2
                have q3 := hz.cell 3; have r3 := hz.frozen 3
                have q4 := hz.cell 4; have r4 := hz.frozen 4
                have q5 := hz.cell 5; have r5 := hz.frozen 5
                have q6 := hz.cell 6; have r6 := hz.frozen 6
                simp only [List.getElem?_toArray, List.getElem?_cons_zero, List.getElem?_cons_succ] at q0 q1 q2 q3 q4 q5 q6
                go_wp2_with fail
                simp only [Exit.jump]
                have hp := put7 hz (.int .u8 0) (.int .i64 0) (.int .i64 0) (.int .i64 0) (.int .i64 0) (.bool false) (.slice none 0 0)
                refine bodyPost_ret (results_cell_tmp_row rfl _ _ n0 29 #[.int .u8 0, .int .i64 0, .int .i64 0, .int .i64 0, .int .i64 0, .bool false, .slice none 0 0] (0, 0) _ rfl hp.1 Try.underlying29 rfl Try.size29) rfl ?_
                have hdec : R = (M0, 2) := by rw [← HRR.out]; rw [HF.out]; exact fin_bad (by rw [HTT.out]) he
                rw [hdec]
                exact ⟨_, rfl, msg0 _ _, by rw [← HN0.out]; exact HE.out.below.trans hp.2.1⟩
              | true =>
                have hz := HE.out.res
                have q0 := hz.cell 0; have r0 := hz.frozen 0
                have q1 := hz.cell 1; have r1 := hz.frozen 1
                have q2 := hz.cell 2; have r2 := hz.frozen 2
                have q3 := hz.cell 3; have r3 := hz.frozen 3
                have q4 := hz.cell 4; have r4 := hz.frozen 4
                have q5 := hz.cell 5; have r5 := hz.frozen 5
                have q6 := hz.cell 6; have r6 := hz.frozen 6
                simp only [List.getElem?_toArray, List.getElem?_cons_zero, List.getElem?_cons_succ] at q0 q1 q2 q3 q4 q5 q6
                have hy := HE.out.msg
                have yy0 := hy.cell 0
                have yy1 := hy.cell 1
                have yy2 := hy.cell 2
                have yy3 := hy.cell 3
                have yy4 := hy.cell 4
                have yy5 := hy.cell 5
                have yy6 := hy.cell 6
                simp only [List.getElem?_toArray, List.getElem?_cons_zero, List.getElem?_cons_succ] at yy0 yy1 yy2 yy3 yy4 yy5 yy6
                go_wp2_with fail
                simp only [Exit.jump]
                have hp := put7 hz (.int .u8 (k : Int)) (.int .i64 (x1 : Int)) (.int .i64 (x2 : Int)) (.int .i64 0) (.int .i64 0) (.bool false) (.slice At i ct)
                refine bodyPost_ret (results_cell_tmp_row rfl _ _ n0 29 #[.int .u8 (k : Int), .int .i64 (x1 : Int), .int .i64 (x2 : Int), .int .i64 0, .int .i64 0, .bool false, .slice At i ct] (0, 0) _ rfl hp.1 Try.underlying29 rfl Try.size29) rfl ?_
                have hdec : R = (⟨k, (x1 : Int), (x2 : Int), (0 : Int), (0 : Int), false, lf⟩, 0) := by rw [← HRR.out, HF.out, fin_ok (l := l1) (by rw [HTT.out]) he, HTT.out]
                rw [hdec]
                exact ⟨_, rfl, ⟨_, rfl, Rd.of_own (own_keptL HO.out hp.2.2 (Other.one hz (by decide)))⟩, by rw [← HN0.out]; exact HE.out.below.trans hp.2.1⟩

theorem decode_any (w : World) (v : Value) (q : List Nat) (h : Rd w w.heap.size v (bvals q)) (hq : ∀ x ∈ q, x < 256) (hl : q.length ≤ 400) : Calls Try.prog 11 #[v] w (RetDec (dec q) w) := by
  unfold dec
  by_cases h2 : q.length < 2
  · rw [if_pos h2]; exact decode_short w v q h hq hl h2
  · rw [if_neg h2]
    by_cases hs : sumOf (q.take (q.length - 2)) = tailNum q
    · rw [if_neg (by simpa using hs)]; exact decode_main w v q h hq hl (by omega) hs
    · rw [if_pos (by simpa using hs)]; exact decode_bad w v q h hq hl (by omega) hs

end Go.Proofs.Ytcfnaajnkloobaa
