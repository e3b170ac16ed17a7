/- Contract: the document's Encode. -/
import Derived.Test.YtcfnaajnkloobaaM3
namespace Go.Proofs.Ytcfnaajnkloobaa
open Go.RowKit
set_option maxRecDepth 100000

theorem rput_any (w : World) (l : List Bool) (N W : Nat) (v : Value) (width : Int) (h : Src w v l) (hl : l.length ≤ 900000) (hW : W ≤ 64) (hw : width = (W : Int)) :
    Calls Try.prog 33 #[v, .int .u64 (N : Int), .int .i64 width] w (RetSrc (l ++ numBits N W) w) := by
  refine (refPut_in w l N W v width h hl hW hw).mono ?_
  rintro e w' ⟨v', rfl, ho, hb⟩
  exact ⟨v', rfl, Or.inr ⟨_, ho⟩, hb⟩

theorem Src.slice {w : World} {v : Value} {l : List Bool} (h : Src w v l) : ∃ A c, v = .slice A l.length c := by
  obtain ⟨A, c, hv, _⟩ := h.rd
  rw [cvals_length] at hv
  exact ⟨A, c, hv⟩

set_option maxHeartbeats 2000000 in
theorem rtrail_any (w : World) (l : List Bool) (v vx : Value) (xs : List Int) (hs : Src w v l) (hx : Rd w w.heap.size vx (ivals xs)) (hl : l.length ≤ 500000) (hxl : xs.length ≤ 1000) :
    Calls Try.prog 34 #[v, vx] w (RetSrc (l ++ etrail xs) w) := by
  obtain ⟨A, c, rfl, -, hx⟩ := hx
  rw [ivals_length] at *
  obtain ⟨n, hn⟩ : ∃ n, n = xs.length := ⟨_, rfl⟩
  rw [← hn] at hx hxl ⊢
  have HN := Lib.hid hn; have HX := Lib.hid hx; clear hn hx
  have HS := Lib.hid hs; clear hs
  go_enter Try.func34, Try.ntmps34
  go_wp2_with fail
  have hu0 : (n : Int) = ((u (n : Int) : Nat) : Int) := by unfold u; omega
  rw [show (Value.int .u64 (n : Int)) = Value.int .u64 ((u (n : Int) : Nat) : Int) from by rw [← hu0]]
  clear hu0
  refine (rput_any w l (u (n : Int)) 4 v 4 HS.out (by omega) (by omega) rfl).mono ?_
  rintro e w1 ⟨v1, rfl, hs1, hb1⟩
  have H1 : Hid (Src w1 v1 (l ++ nbit 4 (n : Int)) ∧ Below w.heap.size w w1) := ⟨hs1, hb1⟩
  clear hs1 hb1
  go_wp2_with fail
  go_loopw [0, 5] (fun b k wr => ∃ i : Nat, i ≤ n ∧ k = .int .i64 i ∧ Hid (Src wr b (l ++ (nbit 4 (n : Int) ++ (xs.take i).flatMap (nbit 6))) ∧ Below w.heap.size w wr)) (fun _ k _ => n - (intOf k).toNat)
  case atStart => exact ⟨0, Nat.zero_le _, rfl, Lib.hid (by have := H1.out; simpa using this)⟩
  case round =>
    obtain ⟨i, hi, rfl, HI⟩ := hrel
    by_cases hlt : i < n
    · have hiq : i < xs.length := by have := HN.out; omega
      obtain ⟨b, o, rfl, hbD, hc⟩ := HX.out (by omega)
      have hcell : wr.cell? ⟨b, o + i, none⟩ = some (.int .i64 xs[i]) := (HI.out.2.cell (p := ⟨b, o + i, none⟩) hbD).trans (hc i _ (ivals_get xs i hiq))
      have HT := Lib.hid (flat_take 6 xs i hiq)
      have hlen : (l ++ (nbit 4 (n : Int) ++ (xs.take i).flatMap (nbit 6))).length ≤ 900000 := by
        rw [List.length_append, List.length_append, nbit_length, flat_length, List.length_take]
        have : min i xs.length ≤ 1000 := by omega
        omega
      have HL := Lib.hid hlen
      clear hlen hc
      generalize xs[i] = x at *
      have HU := Lib.hid (u_wrap x)
      go_wp2_with fail
      rw [← HU.out]
      refine (rput_any wr _ (u x) 6 _ 6 HI.out.1 HL.out (by omega) rfl).mono ?_
      rintro e w2 ⟨v2, rfl, h1, h2⟩
      have H2 : Hid (Src w2 v2 (l ++ (nbit 4 (n : Int) ++ (xs.take (i + 1)).flatMap (nbit 6))) ∧ Below w.heap.size w w2) := by
        refine ⟨?_, HI.out.2.trans (h2.mono HI.out.2.size)⟩
        rw [HT.out, ← List.append_assoc (nbit 4 (n : Int)), ← List.append_assoc l]
        exact h1
      clear h1 h2 hcell
      go_wp2_with fail
      go_roundw
      case rel => exact ⟨i + 1, by omega, by go_num, H2⟩
      case measure => simp [intOf]; omega
    · have hf : xs.take i = xs := List.take_of_length_le (by have := HN.out; omega)
      have HF := Lib.hid hf; clear hf
      go_wp2
      go_ret
      refine ⟨_, rfl, ?_, HI.out.2⟩
      have := HI.out.1
      rw [HF.out] at this
      have e : nbit 4 (n : Int) ++ xs.flatMap (nbit 6) = etrail xs := by unfold etrail; rw [← HN.out]
      rw [e] at this
      exact this

/-- What the document's Encode keeps: the box of the message, the bits so far. -/
structure REnv (w W : World) (n0 : Nat) (C : Array Value) (v : Value) (l : List Bool) : Prop where
  box : Row W n0 29 C
  src : Src W v l
  below : Below n0 w W

theorem REnv.put {w W W' : World} {n0 : Nat} {C : Array Value} {v v' : Value} {l l' : List Bool} (h : REnv w W n0 C v l) (h1 : Src W' v' l') (h2 : Below W.heap.size W W') : REnv w W' n0 C v' l' :=
  ⟨Below.row h2 h.box h.box.lt, h1, h.below.trans (h2.mono (Nat.le_of_lt h.box.lt))⟩

set_option maxHeartbeats 4000000 in
theorem refEncode_any (w : World) (V : Value) (m : Msg) (hv : MsgV w w.heap.size V m) (hk : m.kind < 256) (hl : m.trail.length ≤ 1000) : Calls Try.prog 14 #[V] w (RetBytes (closed (pack (enc m))) w) := by
  obtain ⟨v, rfl, hd⟩ := hv
  unfold msgV
  obtain ⟨i0, hi, hz0, hz1, hz2⟩ := info_parts Try.info4
  have HENC : Hid (enc m = nbit 3 (m.kind : Int) ++ nbit 6 m.train ++ nbit 25 m.time ++ (if m.kind = 3 then nbit 1 m.dir ++ nbit 14 m.ahead ++ [m.whole] else []) ++ (if hasT m.kind = true then etrail m.trail else [])) := by
    show _ = _; unfold enc erest erep; simp [List.append_assoc]
  obtain ⟨A, c, rfl, -⟩ := id hd
  rw [ivals_length] at *
  have HD := Lib.hid hd; clear hd
  generalize henc : enc m = E at *
  clear henc
  obtain ⟨k, t, n, d, a, b, l⟩ := m
  simp only at *
  obtain ⟨ln, hln⟩ : ∃ x, x = l.length := ⟨_, rfl⟩
  rw [← hln] at HD hl ⊢
  have HLN := Lib.hid hln; clear hln
  have HUt := Lib.hid (u_wrap t); have HUn := Lib.hid (u_wrap n); have HUd := Lib.hid (u_wrap d); have HUa := Lib.hid (u_wrap a)
  obtain ⟨n0, hn0⟩ : ∃ x, x = w.heap.size := ⟨_, rfl⟩
  have HE : Hid (REnv w (w.alloc (.cells #[.int .u8 (k : Int), .int .i64 t, .int .i64 n, .int .i64 d, .int .i64 a, .bool b, .slice A ln c] 29)) n0 #[.int .u8 (k : Int), .int .i64 t, .int .i64 n, .int .i64 d, .int .i64 a, .bool b, .slice A ln c] (.slice none 0 0) []) := ⟨by rw [hn0]; exact Row.new w 29 _, Src.nil _, by rw [hn0]; exact (Below.refl _ _).alloc (Nat.le_refl _) _⟩
  have HD0 : Hid (Rd w n0 (.slice A ln c) (ivals l)) := by rw [hn0]; exact HD.out
  clear HD
  go_enter Try.func14, Try.ntmps14
  go_upto_region 1 with (fail)
  rw [← hn0]
  generalize w.alloc (.cells #[.int .u8 (k : Int), .int .i64 t, .int .i64 n, .int .i64 d, .int .i64 a, .bool b, .slice A ln c] 29) = W0 at *
  have HN0 := Lib.hid hn0; clear hn0
  have f0 := HE.out.box.cell 0
  simp only [List.getElem?_toArray, List.getElem?_cons_zero] at f0
  go_wp2_with fail
  rw [show Value.int .u64 (k : Int) = Value.int .u64 ((u (k : Int) : Nat) : Int) from by rw [u8_u64 k hk]]
  refine (rput_any W0 [] (u (k : Int)) 3 _ 3 HE.out.src (by simp) (by omega) rfl).mono ?_
  rintro e W1 ⟨v1, rfl, h1, h2⟩
  have HE2 : Hid (REnv w W1 n0 #[.int .u8 (k : Int), .int .i64 t, .int .i64 n, .int .i64 d, .int .i64 a, .bool b, .slice A ln c] v1 (nbit 3 (k : Int))) := HE.out.put h1 h2
  clear h1 h2 HE f0
  have HE := HE2; clear HE2
  have f1 := HE.out.box.cell 1
  simp only [List.getElem?_toArray, List.getElem?_cons_zero, List.getElem?_cons_succ] at f1
  go_wp2_with fail
  rw [← HUt.out]
  refine (rput_any W1 _ (u t) 6 _ 6 HE.out.src (by simp [nbit_length]) (by omega) rfl).mono ?_
  rintro e W2 ⟨v2, rfl, h1, h2⟩
  have HE2 : Hid (REnv w W2 n0 #[.int .u8 (k : Int), .int .i64 t, .int .i64 n, .int .i64 d, .int .i64 a, .bool b, .slice A ln c] v2 (nbit 3 (k : Int) ++ nbit 6 t)) := HE.out.put h1 h2
  clear h1 h2 HE f1
  have HE := HE2; clear HE2
  have f2 := HE.out.box.cell 2
  simp only [List.getElem?_toArray, List.getElem?_cons_zero, List.getElem?_cons_succ] at f2
  go_wp2_with fail
  rw [← HUn.out]
  refine (rput_any W2 _ (u n) 25 _ 25 HE.out.src (by simp [nbit_length]) (by omega) rfl).mono ?_
  rintro e W3 ⟨v3, rfl, h1, h2⟩
  have HE2 : Hid (REnv w W3 n0 #[.int .u8 (k : Int), .int .i64 t, .int .i64 n, .int .i64 d, .int .i64 a, .bool b, .slice A ln c] v3 (nbit 3 (k : Int) ++ nbit 6 t ++ nbit 25 n)) := HE.out.put h1 h2
  clear h1 h2 HE f2
  have HE := HE2; clear HE2
  by_cases c3 : k = 3
  · subst c3
    have f0 := HE.out.box.cell 0
    simp only [List.getElem?_toArray, List.getElem?_cons_zero] at f0
    have f3 := HE.out.box.cell 3
    simp only [List.getElem?_toArray, List.getElem?_cons_zero, List.getElem?_cons_succ] at f3
    go_wp2_with fail
    rw [← HUd.out]
    refine (rput_any W3 _ (u d) 1 _ 1 HE.out.src (by simp [nbit_length]) (by omega) rfl).mono ?_
    rintro e W4 ⟨v4, rfl, h1, h2⟩
    have HE2 : Hid (REnv w W4 n0 #[.int .u8 ((3 : Nat) : Int), .int .i64 t, .int .i64 n, .int .i64 d, .int .i64 a, .bool b, .slice A ln c] v4 (nbit 3 ((3 : Nat) : Int) ++ nbit 6 t ++ nbit 25 n ++ nbit 1 d)) := HE.out.put h1 h2
    clear h1 h2 HE f3
    have HE := HE2; clear HE2
    have f4 := HE.out.box.cell 4
    simp only [List.getElem?_toArray, List.getElem?_cons_zero, List.getElem?_cons_succ] at f4
    go_wp2_with fail
    rw [← HUa.out]
    refine (refPut_in W4 _ (u a) 14 _ 14 HE.out.src (by simp [nbit_length]) (by omega) rfl).mono ?_
    rintro e W5 ⟨v5, rfl, ho, h2⟩
    have h1 : Src W5 v5 _ := Or.inr ⟨_, ho⟩
    have HOW5 : Hid (∃ bs, W5.ownsRow bs 4 1 v5 49 (cvals (nbit 3 ((3 : Nat) : Int) ++ nbit 6 t ++ nbit 25 n ++ nbit 1 d ++ nbit 14 a)) ∧ n0 ≤ bs ∧ bs ≤ W5.heap.size) := by
      refine ⟨W4.heap.size, ?_, Nat.le_of_lt HE.out.box.lt, h2.size⟩
      have := ho
      rw [show (nbit 3 ((3 : Nat) : Int) ++ nbit 6 t ++ nbit 25 n ++ nbit 1 d ++ numBits (u a) 14).length = 49 from by simp [nbit_length, numBits_length]] at this
      exact this
    clear ho
    have HE2 : Hid (REnv w W5 n0 #[.int .u8 ((3 : Nat) : Int), .int .i64 t, .int .i64 n, .int .i64 d, .int .i64 a, .bool b, .slice A ln c] v5 (nbit 3 ((3 : Nat) : Int) ++ nbit 6 t ++ nbit 25 n ++ nbit 1 d ++ nbit 14 a)) := HE.out.put h1 h2
    clear h1 h2 HE f4
    have HE := HE2; clear HE2
    have f5 := HE.out.box.cell 5
    simp only [List.getElem?_toArray, List.getElem?_cons_zero, List.getElem?_cons_succ] at f5
    have HLP : Hid ((nbit 3 ((3 : Nat) : Int) ++ nbit 6 t ++ nbit 25 n ++ nbit 1 d ++ nbit 14 a).length = 49) := by show _ = _; simp [nbit_length]
    obtain ⟨P, hP⟩ : ∃ P, nbit 3 ((3 : Nat) : Int) ++ nbit 6 t ++ nbit 25 n ++ nbit 1 d ++ nbit 14 a = P := ⟨_, rfl⟩
    rw [hP] at HE HLP
    have HPP := Lib.hid hP; clear hP
    rw [HPP.out] at HOW5
    obtain ⟨bs, hown, hbs, hbz⟩ := HOW5.out
    obtain ⟨A5, c5, hv5⟩ := own_slice hown
    subst hv5
    have HO := Lib.hid hown; have HBS : Hid (n0 ≤ bs ∧ bs ≤ W5.heap.size) := ⟨hbs, hbz⟩
    clear hown HOW5 hbs hbz
    go_wp2_with (at_builtin; refine wpList_append_own _ rfl (.tmp 31) (.tmp 34) 62 rfl bs 4 i0 (.bool false) 1 1 Try.underlying62 hi hz0 hz1 hz2 rfl (by decide) _ _ _ rfl (HO.out.alloc _) ⟨W5.heap.size, 0, none⟩ 1 1 [.bool b] rfl rfl (one_new W5 4 _) (one_cell rfl) (by unfold maxLen; omega) (by omega) (by have := HBS.out.2; simp; omega) ?_)
    intro v6 W6 hown6 hgrow6 _
    have hb6 : Below n0 w W6 := (HE.out.below.alloc (by have := HE.out.box.lt; omega) _).grown hgrow6 (by have := HE.out.box.lt; simp; omega) (fun k hk => Nat.le_trans HBS.out.1 (HO.out.lt k hk).1)
    have hr6 : Row W6 n0 29 #[.int .u8 ((3 : Nat) : Int), .int .i64 t, .int .i64 n, .int .i64 d, .int .i64 a, .bool b, .slice A ln c] := (HE.out.box.alloc _).grown hgrow6 (own_ne (HO.out.alloc (.cells #[.bool b] 4)) (HE.out.box.alloc (.cells #[.bool b] 4)) (by decide))
    have hs6 : Src W6 v6 (P ++ [b]) := Or.inr ⟨bs, by rw [show cvals P ++ [.bool b] = cvals (P ++ [b]) from by simp [cvals]] at hown6; rw [List.length_append, HLP.out]; exact hown6⟩
    have HE2 : Hid (REnv w W6 n0 #[.int .u8 ((3 : Nat) : Int), .int .i64 t, .int .i64 n, .int .i64 d, .int .i64 a, .bool b, .slice A ln c] v6 (P ++ [b])) := ⟨hr6, hs6, hb6⟩
    clear hb6 hr6 hs6 hown6 hgrow6 HE HO HBS f5
    have HE := HE2; clear HE2
    rw [← HPP.out] at HE
    clear HPP HLP
    obtain ⟨A6, c6, hv6⟩ := HE.out.src.slice
    subst hv6
    have f0 := HE.out.box.cell 0
    simp only [List.getElem?_toArray, List.getElem?_cons_zero] at f0
    have f6 := HE.out.box.cell 6
    simp only [List.getElem?_toArray, List.getElem?_cons_zero, List.getElem?_cons_succ] at f6
    go_wp2_with fail
    refine (rtrail_any W6 _ _ _ l HE.out.src (HD0.out.mono (Nat.le_of_lt HE.out.box.lt) fun p hp => HE.out.below.cell hp) (by simp [nbit_length]) (by rw [← HLN.out]; exact hl)).mono ?_
    rintro e W7 ⟨v7, rfl, h1, h2⟩
    have HE2 : Hid (REnv w W7 n0 #[.int .u8 ((3 : Nat) : Int), .int .i64 t, .int .i64 n, .int .i64 d, .int .i64 a, .bool b, .slice A ln c] v7 (nbit 3 ((3 : Nat) : Int) ++ nbit 6 t ++ nbit 25 n ++ nbit 1 d ++ nbit 14 a ++ [b] ++ etrail l)) := HE.out.put h1 h2
    clear h1 h2 HE f6
    have HE := HE2; clear HE2
    have HEQ : Hid (E = nbit 3 ((3 : Nat) : Int) ++ nbit 6 t ++ nbit 25 n ++ nbit 1 d ++ nbit 14 a ++ [b] ++ etrail l) := by
      have h := HENC.out
      show _ = _
      rw [h]; simp [hasT, List.append_assoc]
    have HLE : Hid ((E).length ≤ 10000) := by
      have := HLN.out
      show _ ≤ _
      rw [HEQ.out]; simp [nbit_length, etrail_len] <;> omega
    rw [← HEQ.out] at HE
    clear HEQ HENC
    go_wp2_with fail
    refine (refBytes_any W7 _ E HE.out.src.rd (by have := HLE.out; omega)).mono ?_
    rintro e u8 ⟨v8, rfl, ho8, hb8⟩
    have HO8 := Lib.hid (Rd.of_own ho8); have HB9 := Lib.hid (HE.out.below.trans (hb8.mono (Nat.le_of_lt HE.out.box.lt)))
    clear ho8 hb8
    go_wp2_with fail
    refine (refClose_any u8 u8.heap.size v8 (pack E) HO8.out (Nat.le_refl _) (pack_small _) (by have := HLE.out; rw [pack_length]; unfold nb; omega)).mono ?_
    rintro e u9 ⟨v9, rfl, ho9, hb9⟩
    have HB10 := Lib.hid (HB9.out.trans (hb9.mono (by have h1 := HB9.out.size; have h2 := HN0.out; omega)))
    have HO9 := Lib.hid (own_base ho9 (show w.heap.size ≤ _ by have h1 := HB9.out.size; exact h1))
    clear ho9 hb9
    go_wp2_with fail
    go_ret
    exact ⟨_, rfl, HO9.out, by rw [← HN0.out]; exact HB10.out⟩
  · have e3 : ((k : Int) == 3) = false := by simp; omega
    have f0 := HE.out.box.cell 0
    simp only [List.getElem?_toArray, List.getElem?_cons_zero] at f0
    rw [if_neg c3] at HENC
    by_cases c6 : k = 6
    · subst c6
      have f6 := HE.out.box.cell 6
      simp only [List.getElem?_toArray, List.getElem?_cons_zero, List.getElem?_cons_succ] at f6
      go_wp2_with fail
      refine (rtrail_any W3 _ _ _ l HE.out.src (HD0.out.mono (Nat.le_of_lt HE.out.box.lt) fun p hp => HE.out.below.cell hp) (by simp [nbit_length]) (by rw [← HLN.out]; exact hl)).mono ?_
      rintro e W7 ⟨v7, rfl, h1, h2⟩
      have HE2 : Hid (REnv w W7 n0 #[.int .u8 ((6 : Nat) : Int), .int .i64 t, .int .i64 n, .int .i64 d, .int .i64 a, .bool b, .slice A ln c] v7 (nbit 3 ((6 : Nat) : Int) ++ nbit 6 t ++ nbit 25 n ++ etrail l)) := HE.out.put h1 h2
      clear h1 h2 HE f6
      have HE := HE2; clear HE2
      have HEQ : Hid (E = nbit 3 ((6 : Nat) : Int) ++ nbit 6 t ++ nbit 25 n ++ etrail l) := by
        have h := HENC.out
        show _ = _
        rw [h]; simp [hasT]
      have HLE : Hid ((E).length ≤ 10000) := by
        have := HLN.out
        show _ ≤ _
        rw [HEQ.out]; simp [nbit_length, etrail_len] <;> omega
      rw [← HEQ.out] at HE
      clear HEQ HENC
      go_wp2_with fail
      refine (refBytes_any W7 _ E HE.out.src.rd (by have := HLE.out; omega)).mono ?_
      rintro e u8 ⟨v8, rfl, ho8, hb8⟩
      have HO8 := Lib.hid (Rd.of_own ho8); have HB9 := Lib.hid (HE.out.below.trans (hb8.mono (Nat.le_of_lt HE.out.box.lt)))
      clear ho8 hb8
      go_wp2_with fail
      refine (refClose_any u8 u8.heap.size v8 (pack E) HO8.out (Nat.le_refl _) (pack_small _) (by have := HLE.out; rw [pack_length]; unfold nb; omega)).mono ?_
      rintro e u9 ⟨v9, rfl, ho9, hb9⟩
      have HB10 := Lib.hid (HB9.out.trans (hb9.mono (by have h1 := HB9.out.size; have h2 := HN0.out; omega)))
      have HO9 := Lib.hid (own_base ho9 (show w.heap.size ≤ _ by have h1 := HB9.out.size; exact h1))
      clear ho9 hb9
      go_wp2_with fail
      go_ret
      exact ⟨_, rfl, HO9.out, by rw [← HN0.out]; exact HB10.out⟩
    · have e6 : ((k : Int) == 6) = false := by simp; omega
      have HEQ : Hid (E = nbit 3 (k : Int) ++ nbit 6 t ++ nbit 25 n) := by
        have h := HENC.out
        show _ = _
        rw [h]; simp [hasT, c3, c6]
      have HLE : Hid ((E).length ≤ 10000) := by
        have := HLN.out
        show _ ≤ _
        rw [HEQ.out]; simp [nbit_length] <;> omega
      rw [← HEQ.out] at HE
      clear HEQ HENC
      go_wp2_with fail
      refine (refBytes_any W3 _ E HE.out.src.rd (by have := HLE.out; omega)).mono ?_
      rintro e u8 ⟨v8, rfl, ho8, hb8⟩
      have HO8 := Lib.hid (Rd.of_own ho8); have HB9 := Lib.hid (HE.out.below.trans (hb8.mono (Nat.le_of_lt HE.out.box.lt)))
      clear ho8 hb8
      go_wp2_with fail
      refine (refClose_any u8 u8.heap.size v8 (pack E) HO8.out (Nat.le_refl _) (pack_small _) (by have := HLE.out; rw [pack_length]; unfold nb; omega)).mono ?_
      rintro e u9 ⟨v9, rfl, ho9, hb9⟩
      have HB10 := Lib.hid (HB9.out.trans (hb9.mono (by have h1 := HB9.out.size; have h2 := HN0.out; omega)))
      have HO9 := Lib.hid (own_base ho9 (show w.heap.size ≤ _ by have h1 := HB9.out.size; exact h1))
      clear ho9 hb9
      go_wp2_with fail
      go_ret
      exact ⟨_, rfl, HO9.out, by rw [← HN0.out]; exact HB10.out⟩

end Go.Proofs.Ytcfnaajnkloobaa
