/- Contract: the program's Encode. -/
import Derived.Test.YtcfnaajnkloobaaM2
namespace Go.Proofs.Ytcfnaajnkloobaa
open Go.RowKit
set_option maxRecDepth 100000

def msgV (m : Msg) (v : Value) : Value := .agg #[.int .u8 (m.kind : Int), .int .i64 m.train, .int .i64 m.time, .int .i64 m.dir, .int .i64 m.ahead, .bool m.whole, v]

/-- A message as a value, its trail in blocks below 'D'. -/
def MsgV (w : World) (D : Nat) (V : Value) (m : Msg) : Prop := ∃ v, V = msgV m v ∧ Rd w D v (ivals m.trail)

theorem MsgV.mono {w w' : World} {D D' : Nat} {V : Value} {m : Msg} (h : MsgV w D V m) (hD : D ≤ D') (hc : ∀ p : Addr, p.block < D → w'.cell? p = w.cell? p) : MsgV w' D' V m := by
  obtain ⟨v, h1, h2⟩ := h
  exact ⟨v, h1, h2.mono hD hc⟩
theorem MsgV.up {w w' : World} {V : Value} {m : Msg} (h : MsgV w w.heap.size V m) (hb : Below w.heap.size w w') : MsgV w' w'.heap.size V m := h.mono hb.size fun _ hp => hb.cell hp

/-- What Encode keeps: the box of the message, the writer behind it. -/
structure Env (w W : World) (n0 : Nat) (C : Array Value) (l : List Bool) : Prop where
  box : Row W n0 29 C
  wr : Wr W (n0 + 2) (n0 + 1) l
  below : Below n0 w W
  size : n0 + 2 ≤ W.heap.size

theorem Env.put {w W W' : World} {n0 : Nat} {C : Array Value} {l l' : List Bool} (h : Env w W n0 C l) (h1 : Wr W' (n0 + 2) (n0 + 1) l') (h2 : Kept (n0 + 2) (n0 + 1) W W') : Env w W' n0 C l' :=
  ⟨h2.row h.box (by omega) (by omega), h1, h.below.trans ((h2.mono (show n0 ≤ n0 + 2 by omega)).below (by omega)), Nat.le_trans h.size h2.size⟩

theorem env_of (w : World) (C : Array Value) : Env w ((w.alloc (.cells C 29)).alloc (.cells #[.slice none 0 0, .int .i64 0] 48)) w.heap.size C [] := by
  have r1 := Row.new w 29 C
  have r2 := Row.new (w.alloc (.cells C 29)) 48 #[.slice none 0 0, .int .i64 0]
  simp only [World.size_alloc] at r1 r2
  refine ⟨r1.alloc _, ⟨.slice none 0 0, r2, World.ownsRow_nil _ _ _ _⟩, ((Below.refl _ _).alloc (Nat.le_refl _) _).alloc (by simp) _, by simp [World.size_alloc]⟩

theorem etrail_len (l : List Int) : (etrail l).length = 4 + l.length * 6 := by unfold etrail; rw [List.length_append, nbit_length, flat_length]

theorem u8_u64 (k : Nat) (h : k < 256) : ((u (k : Int) : Nat) : Int) = (k : Int) := by unfold u; omega

set_option maxHeartbeats 4000000 in
theorem encode_any (w : World) (V : Value) (m : Msg) (hv : MsgV w w.heap.size V m) (hk : m.kind < 256) (hl : m.trail.length ≤ 1000) : Calls Try.prog 10 #[V] w (RetBytes (closed (pack (enc m))) w) := by
  obtain ⟨v, rfl, hd⟩ := hv
  unfold msgV
  have HENC : Hid (enc m = nbit 3 (m.kind : Int) ++ nbit 6 m.train ++ nbit 25 m.time ++ (if m.kind = 3 then nbit 1 m.dir ++ nbit 14 m.ahead ++ [m.whole] else []) ++ (if hasT m.kind = true then etrail m.trail else [])) := by
    show _ = _; unfold enc erest erep; simp [List.append_assoc]
  obtain ⟨A, c, rfl, -⟩ := id hd
  rw [ivals_length] at *
  have HD := Lib.hid hd; clear hd
  generalize henc : enc m = E at *
  clear henc
  obtain ⟨k, t, n, d, a, b, l⟩ := m
  simp only at *
  obtain ⟨ln, hln⟩ : ∃ x, x = l.length := ⟨_, rfl⟩
  rw [← hln] at HD hl ⊢
  have HLN := Lib.hid hln; clear hln
  have HUk := Lib.hid (u_wrap (k : Int)); have HUt := Lib.hid (u_wrap t); have HUn := Lib.hid (u_wrap n); have HUd := Lib.hid (u_wrap d); have HUa := Lib.hid (u_wrap a)
  have HE := Lib.hid (env_of w #[.int .u8 (k : Int), .int .i64 t, .int .i64 n, .int .i64 d, .int .i64 a, .bool b, .slice A ln c])
  obtain ⟨n0, hn0⟩ : ∃ x, x = w.heap.size := ⟨_, rfl⟩
  have HD0 : Hid (Rd w n0 (.slice A ln c) (ivals l)) := by rw [hn0]; exact HD.out
  clear HD
  go_enter Try.func10, Try.ntmps10
  go_upto_region 2 with (fail)
  rw [← hn0] at HE ⊢
  generalize (w.alloc (.cells #[.int .u8 (k : Int), .int .i64 t, .int .i64 n, .int .i64 d, .int .i64 a, .bool b, .slice A ln c] 29)).alloc (.cells #[.slice none 0 0, .int .i64 0] 48) = W0 at *
  have HN0 := Lib.hid hn0; clear hn0
  have f0 := HE.out.box.cell 0
  simp only [List.getElem?_toArray, List.getElem?_cons_zero] at f0
  go_wp2_with fail
  rw [show Value.int .u64 (k : Int) = Value.int .u64 ((u (k : Int) : Nat) : Int) from by rw [u8_u64 k hk]]
  refine (put_still W0 (n0 + 2) (n0 + 1) [] (u (k : Int)) 3 HE.out.wr HE.out.size (by simp)).mono ?_
  rintro e W1 ⟨rfl, h1, h2, h3⟩
  have HE2 : Hid (Env w W1 n0 #[.int .u8 (k : Int), .int .i64 t, .int .i64 n, .int .i64 d, .int .i64 a, .bool b, .slice A ln c] (nbit 3 (k : Int))) := HE.out.put h1 h2
  clear h1 h2 h3 HE f0
  have HE := HE2; clear HE2
  have f1 := HE.out.box.cell 1
  simp only [List.getElem?_toArray, List.getElem?_cons_zero, List.getElem?_cons_succ] at f1
  go_wp2_with fail
  rw [← HUt.out]
  refine (put_still W1 (n0 + 2) (n0 + 1) _ (u t) 6 HE.out.wr HE.out.size (by simp [nbit_length])).mono ?_
  rintro e W2 ⟨rfl, h1, h2, h3⟩
  have HE2 : Hid (Env w W2 n0 #[.int .u8 (k : Int), .int .i64 t, .int .i64 n, .int .i64 d, .int .i64 a, .bool b, .slice A ln c] (nbit 3 (k : Int) ++ nbit 6 t)) := HE.out.put h1 h2
  clear h1 h2 h3 HE f1
  have HE := HE2; clear HE2
  have f2 := HE.out.box.cell 2
  simp only [List.getElem?_toArray, List.getElem?_cons_zero, List.getElem?_cons_succ] at f2
  go_wp2_with fail
  rw [← HUn.out]
  refine (put_still W2 (n0 + 2) (n0 + 1) _ (u n) 25 HE.out.wr HE.out.size (by simp [nbit_length])).mono ?_
  rintro e W3 ⟨rfl, h1, h2, h3⟩
  have HE2 : Hid (Env w W3 n0 #[.int .u8 (k : Int), .int .i64 t, .int .i64 n, .int .i64 d, .int .i64 a, .bool b, .slice A ln c] (nbit 3 (k : Int) ++ nbit 6 t ++ nbit 25 n)) := HE.out.put h1 h2
  clear h1 h2 h3 HE f2
  have HE := HE2; clear HE2
  by_cases c3 : k = 3
  · subst c3
    have f0 := HE.out.box.cell 0
    simp only [List.getElem?_toArray, List.getElem?_cons_zero] at f0
    have f3 := HE.out.box.cell 3
    simp only [List.getElem?_toArray, List.getElem?_cons_zero, List.getElem?_cons_succ] at f3
    go_wp2_with fail
    rw [← HUd.out]
    refine (put_still W3 (n0 + 2) (n0 + 1) _ (u d) 1 HE.out.wr HE.out.size (by simp [nbit_length])).mono ?_
    rintro e W4 ⟨rfl, h1, h2, h3⟩
    have HE2 : Hid (Env w W4 n0 #[.int .u8 ((3 : Nat) : Int), .int .i64 t, .int .i64 n, .int .i64 d, .int .i64 a, .bool b, .slice A ln c] (nbit 3 ((3 : Nat) : Int) ++ nbit 6 t ++ nbit 25 n ++ nbit 1 d)) := HE.out.put h1 h2
    clear h1 h2 h3 HE f3
    have HE := HE2; clear HE2
    have f4 := HE.out.box.cell 4
    simp only [List.getElem?_toArray, List.getElem?_cons_zero, List.getElem?_cons_succ] at f4
    go_wp2_with fail
    rw [← HUa.out]
    refine (put_still W4 (n0 + 2) (n0 + 1) _ (u a) 14 HE.out.wr HE.out.size (by simp [nbit_length])).mono ?_
    rintro e W5 ⟨rfl, h1, h2, h3⟩
    have HE2 : Hid (Env w W5 n0 #[.int .u8 ((3 : Nat) : Int), .int .i64 t, .int .i64 n, .int .i64 d, .int .i64 a, .bool b, .slice A ln c] (nbit 3 ((3 : Nat) : Int) ++ nbit 6 t ++ nbit 25 n ++ nbit 1 d ++ nbit 14 a)) := HE.out.put h1 h2
    clear h1 h2 h3 HE f4
    have HE := HE2; clear HE2
    have f5 := HE.out.box.cell 5
    simp only [List.getElem?_toArray, List.getElem?_cons_zero, List.getElem?_cons_succ] at f5
    go_wp2_with fail
    refine (flag_any W5 (n0 + 2) (n0 + 1) _ b HE.out.wr HE.out.size (by simp [nbit_length])).mono ?_
    rintro e W6 ⟨rfl, h1, h2, h3⟩
    have HE2 : Hid (Env w W6 n0 #[.int .u8 ((3 : Nat) : Int), .int .i64 t, .int .i64 n, .int .i64 d, .int .i64 a, .bool b, .slice A ln c] (nbit 3 ((3 : Nat) : Int) ++ nbit 6 t ++ nbit 25 n ++ nbit 1 d ++ nbit 14 a ++ [b])) := HE.out.put h1 h2
    clear h1 h2 h3 HE f5
    have HE := HE2; clear HE2
    have f0 := HE.out.box.cell 0
    simp only [List.getElem?_toArray, List.getElem?_cons_zero] at f0
    go_wp2_with fail
    refine (hasTrail_any 3 W6).mono ?_
    rintro e w' ⟨rfl, rfl⟩
    rw [show hasT 3 = true from rfl]
    have f6 := HE.out.box.cell 6
    simp only [List.getElem?_toArray, List.getElem?_cons_zero, List.getElem?_cons_succ] at f6
    go_wp2_with fail
    refine (putTrail_any W6 (n0 + 2) n0 (n0 + 1) _ _ l HE.out.wr HE.out.size (HD0.out.mono (Nat.le_refl _) fun p hp => HE.out.below.cell hp) (by omega) (by omega) (by simp [nbit_length]) (by rw [← HLN.out]; exact hl)).mono ?_
    rintro e W7 ⟨rfl, h1, h2, h3⟩
    have HE2 : Hid (Env w W7 n0 #[.int .u8 ((3 : Nat) : Int), .int .i64 t, .int .i64 n, .int .i64 d, .int .i64 a, .bool b, .slice A ln c] (nbit 3 ((3 : Nat) : Int) ++ nbit 6 t ++ nbit 25 n ++ nbit 1 d ++ nbit 14 a ++ [b] ++ etrail l)) := HE.out.put h1 h2
    clear h1 h2 h3 HE f6
    have HE := HE2; clear HE2
    have HEQ : Hid (E = nbit 3 ((3 : Nat) : Int) ++ nbit 6 t ++ nbit 25 n ++ nbit 1 d ++ nbit 14 a ++ [b] ++ etrail l) := by
      have h := HENC.out
      show _ = _
      rw [h]; simp [hasT, List.append_assoc]
    have HLE : Hid ((E).length ≤ 10000) := by
      have := HLN.out
      show _ ≤ _
      rw [HEQ.out]; simp [nbit_length, etrail_len] <;> omega
    rw [← HEQ.out] at HE
    clear HEQ HENC
    go_wp2_with fail
    refine (bytes_some W7 (n0 + 2) (n0 + 1) E HE.out.wr (by have := HLE.out; omega)).mono ?_
    rintro e u8 ⟨v8, rfl, ho8, hb8⟩
    have HO8 := Lib.hid (Rd.of_own ho8); have HB9 := Lib.hid (HE.out.below.trans (hb8.mono (by have := HE.out.size; omega)))
    clear ho8 hb8
    go_wp2_with fail
    refine (close_any u8 u8.heap.size v8 (pack E) HO8.out (Nat.le_refl _) (pack_small _) (by have := HLE.out; rw [pack_length]; unfold nb; omega)).mono ?_
    rintro e u9 ⟨v9, rfl, ho9, hb9⟩
    have HB10 := Lib.hid (HB9.out.trans (hb9.mono (by have h1 := HB9.out.size; have h2 := HN0.out; omega)))
    have HO9 := Lib.hid (own_base ho9 (show w.heap.size ≤ _ by have h1 := HB9.out.size; exact h1))
    clear ho9 hb9
    go_wp2_with fail
    go_ret
    exact ⟨_, rfl, HO9.out, by rw [← HN0.out]; exact HB10.out⟩
  · have e3 : ((k : Int) == 3) = false := by simp; omega
    have f0 := HE.out.box.cell 0
    simp only [List.getElem?_toArray, List.getElem?_cons_zero] at f0
    go_wp2_with fail
    refine (hasTrail_any k W3).mono ?_
    rintro e w' ⟨rfl, rfl⟩
    rw [if_neg c3] at HENC
    cases hc : hasT k with
    | true =>
      rw [hc] at HENC
      clear f0
      have f6 := HE.out.box.cell 6
      simp only [List.getElem?_toArray, List.getElem?_cons_zero, List.getElem?_cons_succ] at f6
      go_wp2_with fail
      refine (putTrail_any W3 (n0 + 2) n0 (n0 + 1) _ _ l HE.out.wr HE.out.size (HD0.out.mono (Nat.le_refl _) fun p hp => HE.out.below.cell hp) (by omega) (by omega) (by simp [nbit_length]) (by rw [← HLN.out]; exact hl)).mono ?_
      rintro e W7 ⟨rfl, h1, h2, h3⟩
      have HE2 : Hid (Env w W7 n0 #[.int .u8 (k : Int), .int .i64 t, .int .i64 n, .int .i64 d, .int .i64 a, .bool b, .slice A ln c] (nbit 3 (k : Int) ++ nbit 6 t ++ nbit 25 n ++ etrail l)) := HE.out.put h1 h2
      clear h1 h2 h3 HE f6
      have HE := HE2; clear HE2
      have HEQ : Hid (E = nbit 3 (k : Int) ++ nbit 6 t ++ nbit 25 n ++ etrail l) := by
        have h := HENC.out
        show _ = _
        rw [h]; simp
      have HLE : Hid ((E).length ≤ 10000) := by
        have := HLN.out
        show _ ≤ _
        rw [HEQ.out]; simp [nbit_length, etrail_len] <;> omega
      rw [← HEQ.out] at HE
      clear HEQ HENC
      go_wp2_with fail
      refine (bytes_some W7 (n0 + 2) (n0 + 1) E HE.out.wr (by have := HLE.out; omega)).mono ?_
      rintro e u8 ⟨v8, rfl, ho8, hb8⟩
      have HO8 := Lib.hid (Rd.of_own ho8); have HB9 := Lib.hid (HE.out.below.trans (hb8.mono (by have := HE.out.size; omega)))
      clear ho8 hb8
      go_wp2_with fail
      refine (close_any u8 u8.heap.size v8 (pack E) HO8.out (Nat.le_refl _) (pack_small _) (by have := HLE.out; rw [pack_length]; unfold nb; omega)).mono ?_
      rintro e u9 ⟨v9, rfl, ho9, hb9⟩
      have HB10 := Lib.hid (HB9.out.trans (hb9.mono (by have h1 := HB9.out.size; have h2 := HN0.out; omega)))
      have HO9 := Lib.hid (own_base ho9 (show w.heap.size ≤ _ by have h1 := HB9.out.size; exact h1))
      clear ho9 hb9
      go_wp2_with fail
      go_ret
      exact ⟨_, rfl, HO9.out, by rw [← HN0.out]; exact HB10.out⟩
    | false =>
      rw [hc] at HENC
      clear f0
      have HEQ : Hid (E = nbit 3 (k : Int) ++ nbit 6 t ++ nbit 25 n) := by
        have h := HENC.out
        show _ = _
        rw [h]; simp
      have HLE : Hid ((E).length ≤ 10000) := by
        have := HLN.out
        show _ ≤ _
        rw [HEQ.out]; simp [nbit_length] <;> omega
      rw [← HEQ.out] at HE
      clear HEQ HENC
      go_wp2_with fail
      refine (bytes_some W3 (n0 + 2) (n0 + 1) E HE.out.wr (by have := HLE.out; omega)).mono ?_
      rintro e u8 ⟨v8, rfl, ho8, hb8⟩
      have HO8 := Lib.hid (Rd.of_own ho8); have HB9 := Lib.hid (HE.out.below.trans (hb8.mono (by have := HE.out.size; omega)))
      clear ho8 hb8
      go_wp2_with fail
      refine (close_any u8 u8.heap.size v8 (pack E) HO8.out (Nat.le_refl _) (pack_small _) (by have := HLE.out; rw [pack_length]; unfold nb; omega)).mono ?_
      rintro e u9 ⟨v9, rfl, ho9, hb9⟩
      have HB10 := Lib.hid (HB9.out.trans (hb9.mono (by have h1 := HB9.out.size; have h2 := HN0.out; omega)))
      have HO9 := Lib.hid (own_base ho9 (show w.heap.size ≤ _ by have h1 := HB9.out.size; exact h1))
      clear ho9 hb9
      go_wp2_with fail
      go_ret
      exact ⟨_, rfl, HO9.out, by rw [← HN0.out]; exact HB10.out⟩

end Go.Proofs.Ytcfnaajnkloobaa
