/- Contracts: Same, of the program and of the document; what the laws call. -/
import Derived.Test.YtcfnaajnkloobaaK3
import Derived.Test.YtcfnaajnkloobaaM8
namespace Go.Proofs.Ytcfnaajnkloobaa
open Go.RowKit
set_option maxRecDepth 100000

set_option maxHeartbeats 4000000 in
theorem same_any (w : World) (va vb : Value) (x y : Msg) (ha : MsgV w w.heap.size va x) (hb : MsgV w w.heap.size vb y) (hl : x.trail.length ≤ 1000) : Calls Try.prog 16 #[va, vb] w (RetL (decide (Alike x y)) w) := by
  obtain ⟨v, rfl, hd⟩ := ha
  obtain ⟨v', rfl, hd'⟩ := hb
  obtain ⟨k, t, n, d, a, b, l⟩ := x
  obtain ⟨k', t', n', d', a', b', l'⟩ := y
  unfold msgV
  simp only at *
  obtain ⟨A, c, rfl, -⟩ := id hd
  obtain ⟨A', c', rfl, -⟩ := id hd'
  simp only [ivals_length] at *
  have hT := two_of w #[.int .u8 (k : Int), .int .i64 t, .int .i64 n, .int .i64 d, .int .i64 a, .bool b, .slice A l.length c] #[.int .u8 (k' : Int), .int .i64 t', .int .i64 n', .int .i64 d', .int .i64 a', .bool b', .slice A' l'.length c']
  have HB : Hid (Below w.heap.size w ((w.alloc (.cells #[.int .u8 (k : Int), .int .i64 t, .int .i64 n, .int .i64 d, .int .i64 a, .bool b, .slice A l.length c] 29)).alloc (.cells #[.int .u8 (k' : Int), .int .i64 t', .int .i64 n', .int .i64 d', .int .i64 a', .bool b', .slice A' l'.length c'] 29))) := ((Below.refl _ _).alloc (Nat.le_refl _) _).alloc (by simp) _
  have HD := Lib.hid (hd.mono (w' := (w.alloc (.cells #[.int .u8 (k : Int), .int .i64 t, .int .i64 n, .int .i64 d, .int .i64 a, .bool b, .slice A l.length c] 29)).alloc (.cells #[.int .u8 (k' : Int), .int .i64 t', .int .i64 n', .int .i64 d', .int .i64 a', .bool b', .slice A' l'.length c'] 29)) HB.out.size fun p hp => HB.out.cell hp)
  have HD' := Lib.hid (hd'.mono (w' := (w.alloc (.cells #[.int .u8 (k : Int), .int .i64 t, .int .i64 n, .int .i64 d, .int .i64 a, .bool b, .slice A l.length c] 29)).alloc (.cells #[.int .u8 (k' : Int), .int .i64 t', .int .i64 n', .int .i64 d', .int .i64 a', .bool b', .slice A' l'.length c'] 29)) HB.out.size fun p hp => HB.out.cell hp)
  have p0 := hT.a.cell 0; have q0 := hT.b.cell 0
  have p1 := hT.a.cell 1; have q1 := hT.b.cell 1
  have p2 := hT.a.cell 2; have q2 := hT.b.cell 2
  have p3 := hT.a.cell 3; have q3 := hT.b.cell 3
  have p4 := hT.a.cell 4; have q4 := hT.b.cell 4
  have p5 := hT.a.cell 5; have q5 := hT.b.cell 5
  have p6 := hT.a.cell 6; have q6 := hT.b.cell 6
  simp only [List.getElem?_toArray, List.getElem?_cons_zero, List.getElem?_cons_succ] at p0 q0 p1 q1 p2 q2 p3 q3 p4 q4 p5 q5 p6 q6
  clear hT hd hd'
  go_enter Try.func16, Try.ntmps16
  go_upto_region 1 with (fail)
  generalize (w.alloc (.cells #[.int .u8 (k : Int), .int .i64 t, .int .i64 n, .int .i64 d, .int .i64 a, .bool b, .slice A l.length c] 29)).alloc (.cells #[.int .u8 (k' : Int), .int .i64 t', .int .i64 n', .int .i64 d', .int .i64 a', .bool b', .slice A' l'.length c'] 29) = W at *
  generalize w.heap.size + 1 = n1 at *
  obtain ⟨n0, hn0⟩ : ∃ n, n = w.heap.size := ⟨_, rfl⟩
  rw [← hn0] at p0 p1 p2 p3 p4 p5 p6 HB ⊢
  have HN0 := Lib.hid hn0; clear hn0
  obtain ⟨ln, hln⟩ : ∃ m, m = l.length := ⟨_, rfl⟩
  obtain ⟨ln', hln'⟩ : ∃ m, m = l'.length := ⟨_, rfl⟩
  rw [← hln] at p6 HD hl ⊢
  rw [← hln'] at q6 HD'
  have HLN := Lib.hid hln; have HLN' := Lib.hid hln'; clear hln hln'
  by_cases h0 : k = k'
  rotate_left
  · have e0 : ((k : Int) == (k' : Int)) = false := by simp; omega
    have HNE : Hid (decide (Alike ⟨k, t, n, d, a, b, l⟩ ⟨k', t', n', d', a', b', l'⟩) = false) := decide_eq_false fun h => h0 h.1
    clear h0
    go_wp2_with fail
    go_ret
    exact ⟨by rw [HNE.out]; rfl, by rw [← HN0.out]; exact HB.out⟩
  have e0 : ((k : Int) == (k' : Int)) = true := by simp; omega
  have H0 := Lib.hid h0; clear h0
  by_cases h1 : t = t'
  rotate_left
  · have e1 : (t == t') = false := by simpa using h1
    have HNE : Hid (decide (Alike ⟨k, t, n, d, a, b, l⟩ ⟨k', t', n', d', a', b', l'⟩) = false) := decide_eq_false fun h => h1 h.2.1
    clear h1
    go_wp2_with fail
    go_ret
    exact ⟨by rw [HNE.out]; rfl, by rw [← HN0.out]; exact HB.out⟩
  have e1 : (t == t') = true := by simpa using h1
  have H1 := Lib.hid h1; clear h1
  by_cases h2 : n = n'
  rotate_left
  · have e2 : (n == n') = false := by simpa using h2
    have HNE : Hid (decide (Alike ⟨k, t, n, d, a, b, l⟩ ⟨k', t', n', d', a', b', l'⟩) = false) := decide_eq_false fun h => h2 h.2.2.1
    clear h2
    go_wp2_with fail
    go_ret
    exact ⟨by rw [HNE.out]; rfl, by rw [← HN0.out]; exact HB.out⟩
  have e2 : (n == n') = true := by simpa using h2
  have H2 := Lib.hid h2; clear h2
  by_cases h3 : d = d'
  rotate_left
  · have e3 : (d == d') = false := by simpa using h3
    have HNE : Hid (decide (Alike ⟨k, t, n, d, a, b, l⟩ ⟨k', t', n', d', a', b', l'⟩) = false) := decide_eq_false fun h => h3 h.2.2.2.1
    clear h3
    go_wp2_with fail
    go_ret
    exact ⟨by rw [HNE.out]; rfl, by rw [← HN0.out]; exact HB.out⟩
  have e3 : (d == d') = true := by simpa using h3
  have H3 := Lib.hid h3; clear h3
  by_cases h4 : a = a'
  rotate_left
  · have e4 : (a == a') = false := by simpa using h4
    have HNE : Hid (decide (Alike ⟨k, t, n, d, a, b, l⟩ ⟨k', t', n', d', a', b', l'⟩) = false) := decide_eq_false fun h => h4 h.2.2.2.2.1
    clear h4
    go_wp2_with fail
    go_ret
    exact ⟨by rw [HNE.out]; rfl, by rw [← HN0.out]; exact HB.out⟩
  have e4 : (a == a') = true := by simpa using h4
  have H4 := Lib.hid h4; clear h4
  by_cases h5 : b = b'
  rotate_left
  · have e5 : (b == b') = false := by simpa using h5
    have HNE : Hid (decide (Alike ⟨k, t, n, d, a, b, l⟩ ⟨k', t', n', d', a', b', l'⟩) = false) := decide_eq_false fun h => h5 h.2.2.2.2.2.1
    clear h5
    go_wp2_with fail
    go_ret
    exact ⟨by rw [HNE.out]; rfl, by rw [← HN0.out]; exact HB.out⟩
  have e5 : (b == b') = true := by simpa using h5
  have H5 := Lib.hid h5; clear h5
  go_wp2_with fail
  refine (equalInts_any W W.heap.size _ _ l l' HD.out HD'.out (by have := HLN.out; omega)).mono ?_
  rintro e W2 ⟨rfl, m, hW2⟩
  have HB2 : Hid (Below n0 w W2) := by rw [hW2]; exact ⟨HB.out.os, HB.out.tape, HB.out.output, HB.out.size, HB.out.block⟩
  have HAL : Hid (decide (Alike ⟨k, t, n, d, a, b, l⟩ ⟨k', t', n', d', a', b', l'⟩) = decide (l = l')) := by
    show _ = _
    by_cases c : l = l'
    · rw [decide_eq_true c]; exact decide_eq_true ⟨H0.out, H1.out, H2.out, H3.out, H4.out, H5.out, c⟩
    · rw [decide_eq_false c]; exact decide_eq_false fun h => c h.2.2.2.2.2.2
  clear hW2
  generalize decide (l = l') = r at *
  go_wp2_with fail
  go_ret
  exact ⟨by rw [HAL.out]; rfl, by rw [← HN0.out]; exact HB2.out⟩

set_option maxHeartbeats 4000000 in
theorem refSame_any (w : World) (va vb : Value) (x y : Msg) (ha : MsgV w w.heap.size va x) (hb : MsgV w w.heap.size vb y) (hl : x.trail.length ≤ 1000) : Calls Try.prog 15 #[va, vb] w (RetL (decide (Alike x y)) w) := by
  obtain ⟨v, rfl, hd⟩ := ha
  obtain ⟨v', rfl, hd'⟩ := hb
  obtain ⟨k, t, n, d, a, b, l⟩ := x
  obtain ⟨k', t', n', d', a', b', l'⟩ := y
  unfold msgV
  simp only at *
  obtain ⟨A, c, rfl, -⟩ := id hd
  obtain ⟨A', c', rfl, -⟩ := id hd'
  simp only [ivals_length] at *
  have hT := two_of w #[.int .u8 (k : Int), .int .i64 t, .int .i64 n, .int .i64 d, .int .i64 a, .bool b, .slice A l.length c] #[.int .u8 (k' : Int), .int .i64 t', .int .i64 n', .int .i64 d', .int .i64 a', .bool b', .slice A' l'.length c']
  have HB : Hid (Below w.heap.size w ((w.alloc (.cells #[.int .u8 (k : Int), .int .i64 t, .int .i64 n, .int .i64 d, .int .i64 a, .bool b, .slice A l.length c] 29)).alloc (.cells #[.int .u8 (k' : Int), .int .i64 t', .int .i64 n', .int .i64 d', .int .i64 a', .bool b', .slice A' l'.length c'] 29))) := ((Below.refl _ _).alloc (Nat.le_refl _) _).alloc (by simp) _
  have HD := Lib.hid (hd.mono (w' := (w.alloc (.cells #[.int .u8 (k : Int), .int .i64 t, .int .i64 n, .int .i64 d, .int .i64 a, .bool b, .slice A l.length c] 29)).alloc (.cells #[.int .u8 (k' : Int), .int .i64 t', .int .i64 n', .int .i64 d', .int .i64 a', .bool b', .slice A' l'.length c'] 29)) HB.out.size fun p hp => HB.out.cell hp)
  have HD' := Lib.hid (hd'.mono (w' := (w.alloc (.cells #[.int .u8 (k : Int), .int .i64 t, .int .i64 n, .int .i64 d, .int .i64 a, .bool b, .slice A l.length c] 29)).alloc (.cells #[.int .u8 (k' : Int), .int .i64 t', .int .i64 n', .int .i64 d', .int .i64 a', .bool b', .slice A' l'.length c'] 29)) HB.out.size fun p hp => HB.out.cell hp)
  have p0 := hT.a.cell 0; have q0 := hT.b.cell 0
  have p1 := hT.a.cell 1; have q1 := hT.b.cell 1
  have p2 := hT.a.cell 2; have q2 := hT.b.cell 2
  have p3 := hT.a.cell 3; have q3 := hT.b.cell 3
  have p4 := hT.a.cell 4; have q4 := hT.b.cell 4
  have p5 := hT.a.cell 5; have q5 := hT.b.cell 5
  have p6 := hT.a.cell 6; have q6 := hT.b.cell 6
  simp only [List.getElem?_toArray, List.getElem?_cons_zero, List.getElem?_cons_succ] at p0 q0 p1 q1 p2 q2 p3 q3 p4 q4 p5 q5 p6 q6
  clear hT hd hd'
  go_enter Try.func15, Try.ntmps15
  go_upto_region 1 with (fail)
  generalize (w.alloc (.cells #[.int .u8 (k : Int), .int .i64 t, .int .i64 n, .int .i64 d, .int .i64 a, .bool b, .slice A l.length c] 29)).alloc (.cells #[.int .u8 (k' : Int), .int .i64 t', .int .i64 n', .int .i64 d', .int .i64 a', .bool b', .slice A' l'.length c'] 29) = W at *
  generalize w.heap.size + 1 = n1 at *
  obtain ⟨n0, hn0⟩ : ∃ n, n = w.heap.size := ⟨_, rfl⟩
  rw [← hn0] at p0 p1 p2 p3 p4 p5 p6 HB ⊢
  have HN0 := Lib.hid hn0; clear hn0
  obtain ⟨ln, hln⟩ : ∃ m, m = l.length := ⟨_, rfl⟩
  obtain ⟨ln', hln'⟩ : ∃ m, m = l'.length := ⟨_, rfl⟩
  rw [← hln] at p6 HD hl ⊢
  rw [← hln'] at q6 HD'
  have HLN := Lib.hid hln; have HLN' := Lib.hid hln'; clear hln hln'
  by_cases h0 : k = k'
  rotate_left
  · have e0 : ((k : Int) == (k' : Int)) = false := by simp; omega
    have HNE : Hid (decide (Alike ⟨k, t, n, d, a, b, l⟩ ⟨k', t', n', d', a', b', l'⟩) = false) := decide_eq_false fun h => h0 h.1
    clear h0
    go_wp2_with fail
    go_ret
    exact ⟨by rw [HNE.out]; rfl, by rw [← HN0.out]; exact HB.out⟩
  have e0 : ((k : Int) == (k' : Int)) = true := by simp; omega
  have H0 := Lib.hid h0; clear h0
  by_cases h1 : t = t'
  rotate_left
  · have e1 : (t == t') = false := by simpa using h1
    have HNE : Hid (decide (Alike ⟨k, t, n, d, a, b, l⟩ ⟨k', t', n', d', a', b', l'⟩) = false) := decide_eq_false fun h => h1 h.2.1
    clear h1
    go_wp2_with fail
    go_ret
    exact ⟨by rw [HNE.out]; rfl, by rw [← HN0.out]; exact HB.out⟩
  have e1 : (t == t') = true := by simpa using h1
  have H1 := Lib.hid h1; clear h1
  by_cases h2 : n = n'
  rotate_left
  · have e2 : (n == n') = false := by simpa using h2
    have HNE : Hid (decide (Alike ⟨k, t, n, d, a, b, l⟩ ⟨k', t', n', d', a', b', l'⟩) = false) := decide_eq_false fun h => h2 h.2.2.1
    clear h2
    go_wp2_with fail
    go_ret
    exact ⟨by rw [HNE.out]; rfl, by rw [← HN0.out]; exact HB.out⟩
  have e2 : (n == n') = true := by simpa using h2
  have H2 := Lib.hid h2; clear h2
  by_cases h3 : d = d'
  rotate_left
  · have e3 : (d == d') = false := by simpa using h3
    have HNE : Hid (decide (Alike ⟨k, t, n, d, a, b, l⟩ ⟨k', t', n', d', a', b', l'⟩) = false) := decide_eq_false fun h => h3 h.2.2.2.1
    clear h3
    go_wp2_with fail
    go_ret
    exact ⟨by rw [HNE.out]; rfl, by rw [← HN0.out]; exact HB.out⟩
  have e3 : (d == d') = true := by simpa using h3
  have H3 := Lib.hid h3; clear h3
  by_cases h4 : a = a'
  rotate_left
  · have e4 : (a == a') = false := by simpa using h4
    have HNE : Hid (decide (Alike ⟨k, t, n, d, a, b, l⟩ ⟨k', t', n', d', a', b', l'⟩) = false) := decide_eq_false fun h => h4 h.2.2.2.2.1
    clear h4
    go_wp2_with fail
    go_ret
    exact ⟨by rw [HNE.out]; rfl, by rw [← HN0.out]; exact HB.out⟩
  have e4 : (a == a') = true := by simpa using h4
  have H4 := Lib.hid h4; clear h4
  by_cases h5 : b = b'
  rotate_left
  · have e5 : (b == b') = false := by simpa using h5
    have HNE : Hid (decide (Alike ⟨k, t, n, d, a, b, l⟩ ⟨k', t', n', d', a', b', l'⟩) = false) := decide_eq_false fun h => h5 h.2.2.2.2.2.1
    clear h5
    go_wp2_with fail
    go_ret
    exact ⟨by rw [HNE.out]; rfl, by rw [← HN0.out]; exact HB.out⟩
  have e5 : (b == b') = true := by simpa using h5
  have H5 := Lib.hid h5; clear h5
  go_wp2_with fail
  refine (ints_any W W.heap.size _ _ l l' HD.out HD'.out (by have := HLN.out; omega)).mono ?_
  rintro e W2 ⟨rfl, m, hW2⟩
  have HB2 : Hid (Below n0 w W2) := by rw [hW2]; exact ⟨HB.out.os, HB.out.tape, HB.out.output, HB.out.size, HB.out.block⟩
  have HAL : Hid (decide (Alike ⟨k, t, n, d, a, b, l⟩ ⟨k', t', n', d', a', b', l'⟩) = decide (l = l')) := by
    show _ = _
    by_cases c : l = l'
    · rw [decide_eq_true c]; exact decide_eq_true ⟨H0.out, H1.out, H2.out, H3.out, H4.out, H5.out, c⟩
    · rw [decide_eq_false c]; exact decide_eq_false fun h => c h.2.2.2.2.2.2
  clear hW2
  generalize decide (l = l') = r at *
  go_wp2_with fail
  go_ret
  exact ⟨by rw [HAL.out]; rfl, by rw [← HN0.out]; exact HB2.out⟩

end Go.Proofs.Ytcfnaajnkloobaa
