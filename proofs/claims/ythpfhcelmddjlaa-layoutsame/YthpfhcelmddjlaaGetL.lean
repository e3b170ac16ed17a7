/- Contracts: lists read by what reads one. -/
import Derived.Test.YthpfhcelmddjlaaGets2
import Derived.Laws.MakeOwn
namespace Go.Proofs.Ythpfhcelmddjlaa
open Go.RowKit Fl
set_option maxRecDepth 100000

theorem Try.info3 : (Try.prog.info? 3).map (fun i => (i.zero, i.size, i.bytes)) = some (some (.int .i64 0), 1, 8) := by kernel_rfl
theorem Try.info47 : (Try.prog.info? 47).map (fun i => (i.zero, i.size, i.bytes)) = some (some (.complex .f64 0 0), 1, 16) := by kernel_rfl
theorem Try.info50 : (Try.prog.info? 50).map (fun i => (i.zero, i.size, i.bytes)) = some (some (.agg #[.int .i64 0, .int .i64 0, .int .i64 0]), 3, 24) := by kernel_rfl
theorem Try.info51 : (Try.prog.info? 51).map (fun i => (i.zero, i.size, i.bytes)) = some (some (.slice none 0 0), 1, 24) := by kernel_rfl
theorem Try.info53 : (Try.prog.info? 53).map (fun i => (i.zero, i.size, i.bytes)) = some (some (.agg #[.int .i64 0, .int .i64 0, .int .i64 0, .int .i64 0]), 4, 32) := by kernel_rfl

theorem make_any (t e k bytes : Nat) (z : Value) (hi : (Try.prog.info? e).map (fun i => (i.zero, i.size, i.bytes)) = some (some z, k, bytes)) (hu : Try.prog.underlying t = some (.slice e)) (n : Nat) (hn : n ≤ 1000) (hb : bytes ≤ 1000) :
    ∀ w, (Instr.makeSlice t (.int .u64 (n : Int)) (.int .u64 (n : Int))).run Try.prog w = .ok (.slice (some ⟨w.heap.size, 0, none⟩) n n) (w.alloc (.cells (madeCells z.cells (n * k)) e)) := by
  intro w
  obtain ⟨i0, hi, hz0, hz1, hz2⟩ := info_parts hi
  have hbn : (i0.bytes : Int) * (n : Int) ≤ 1000 * 1000 := by
    rw [hz2]
    have : ((bytes * n : Nat) : Int) ≤ 1000 * 1000 := by
      have := Nat.mul_le_mul hb hn
      omega
    simpa using this
  have h := run_make (P := Try.prog) w t e i0 z hu hi hz0 .u64 .u64 (n : Int) (n : Int) (by omega) (Int.le_refl _) (by omega) (by omega)
  rw [hz1, Int.toNat_natCast] at h
  exact h

theorem fill_snoc {cur : Array Value} {xs : List Value} {i : Nat} {x : Value} (h : ∀ (j : Nat) (u : Value), xs[j]? = some u → cur[j]? = some u) (hl : xs.length = i) (hi : i < cur.size) : ∀ (j : Nat) (u : Value), (xs ++ [x])[j]? = some u → (cur.setIfInBounds i x)[j]? = some u := by
  intro j u hu
  rw [Array.getElem?_setIfInBounds]
  by_cases c : i = j
  · subst c
    rw [if_pos rfl, if_pos hi]
    rw [List.getElem?_append_right (by omega)] at hu
    simpa [hl] using hu
  · rw [if_neg c]
    have hj := (List.getElem?_eq_some_iff.1 hu).1
    rw [List.length_append] at hj
    simp only [List.length_cons, List.length_nil] at hj
    rw [List.getElem?_append_left (by omega)] at hu
    exact h j u hu

def IsRow (w : World) (v : Value) (xs : List Int) : Prop := Tl w 3 v (ivals xs)
def IsNodes (w : World) (v : Value) (zs : List (Int × Int)) : Prop := ∃ ps, Tl w 47 v (nvals ps) ∧ FlN ps zs
def IsRows (w : World) (v : Value) (rows : List (List Int)) : Prop := ∃ vs, Tl w 51 v vs ∧ vs.length = rows.length ∧ ∀ i (h1 : i < vs.length) (h2 : i < rows.length), Tl w 3 vs[i] (ivals rows[i])

/-- Sections that fill a block from its head on. -/
def FillS (cur : Array Value) (xs : List (Int × Int × Int)) : Prop := ∀ j (h : j < xs.length), cur[j * 3]? = some (.int .i64 xs[j].1) ∧ cur[j * 3 + 1]? = some (.int .i64 xs[j].2.1) ∧ cur[j * 3 + 2]? = some (.int .i64 xs[j].2.2)
def FillP (cur : Array Value) (xs : List (Int × Int × Int × Int)) : Prop := ∀ j (h : j < xs.length), cur[j * 4]? = some (.int .i64 xs[j].1) ∧ cur[j * 4 + 1]? = some (.int .i64 xs[j].2.1) ∧ cur[j * 4 + 2]? = some (.int .i64 xs[j].2.2.1) ∧ cur[j * 4 + 3]? = some (.int .i64 xs[j].2.2.2)

def IsSecs (w : World) (v : Value) (xs : List (Int × Int × Int)) : Prop := ∃ (A : Option Addr) (c : Nat), v = .slice A xs.length c ∧ (0 < xs.length → ∃ b cur fr, A = some ⟨b, 0, none⟩ ∧ w.heap[b]? = some (.cells cur 50 fr) ∧ FillS cur xs)
def IsPoints (w : World) (v : Value) (xs : List (Int × Int × Int × Int)) : Prop := ∃ (A : Option Addr) (c : Nat), v = .slice A xs.length c ∧ (0 < xs.length → ∃ b cur fr, A = some ⟨b, 0, none⟩ ∧ w.heap[b]? = some (.cells cur 53 fr) ∧ FillP cur xs)

theorem FillS.snoc {cur : Array Value} {xs : List (Int × Int × Int)} {i n : Nat} {x : Int × Int × Int} (h : FillS cur xs) (hl : xs.length = i) (hi : i < n) (hs : cur.size = n * 3) : FillS (((cur.setIfInBounds (i * 3) (.int .i64 x.1)).setIfInBounds (i * 3 + 1) (.int .i64 x.2.1)).setIfInBounds (i * 3 + 2) (.int .i64 x.2.2)) (xs ++ [x]) := by
  intro j hj
  rw [List.length_append] at hj
  simp only [List.length_cons, List.length_nil] at hj
  rcases Nat.lt_or_ge j i with c | c
  · obtain ⟨a, b, d⟩ := h j (by omega)
    rw [List.getElem_append_left (by omega)]
    refine ⟨?_, ?_, ?_⟩
    · rw [Array.getElem?_setIfInBounds_ne (by omega), Array.getElem?_setIfInBounds_ne (by omega), Array.getElem?_setIfInBounds_ne (by omega)]; exact a
    · rw [Array.getElem?_setIfInBounds_ne (by omega), Array.getElem?_setIfInBounds_ne (by omega), Array.getElem?_setIfInBounds_ne (by omega)]; exact b
    · rw [Array.getElem?_setIfInBounds_ne (by omega), Array.getElem?_setIfInBounds_ne (by omega), Array.getElem?_setIfInBounds_ne (by omega)]; exact d
  · obtain rfl : j = i := by omega
    rw [List.getElem_append_right (by omega)]
    simp only [hl, Nat.sub_self, List.getElem_cons_zero]
    refine ⟨?_, ?_, ?_⟩
    · rw [Array.getElem?_setIfInBounds_ne (by omega), Array.getElem?_setIfInBounds_ne (by omega), Array.getElem?_setIfInBounds_self_of_lt (by first | omega | (simp only [Array.size_setIfInBounds]; omega))]
    · rw [Array.getElem?_setIfInBounds_ne (by omega), Array.getElem?_setIfInBounds_self_of_lt (by first | omega | (simp only [Array.size_setIfInBounds]; omega))]
    · rw [Array.getElem?_setIfInBounds_self_of_lt (by first | omega | (simp only [Array.size_setIfInBounds]; omega))]

theorem FillP.snoc {cur : Array Value} {xs : List (Int × Int × Int × Int)} {i n : Nat} {x : Int × Int × Int × Int} (h : FillP cur xs) (hl : xs.length = i) (hi : i < n) (hs : cur.size = n * 4) : FillP ((((cur.setIfInBounds (i * 4) (.int .i64 x.1)).setIfInBounds (i * 4 + 1) (.int .i64 x.2.1)).setIfInBounds (i * 4 + 2) (.int .i64 x.2.2.1)).setIfInBounds (i * 4 + 3) (.int .i64 x.2.2.2)) (xs ++ [x]) := by
  intro j hj
  rw [List.length_append] at hj
  simp only [List.length_cons, List.length_nil] at hj
  rcases Nat.lt_or_ge j i with c | c
  · obtain ⟨a, b, d, e⟩ := h j (by omega)
    rw [List.getElem_append_left (by omega)]
    refine ⟨?_, ?_, ?_, ?_⟩
    · rw [Array.getElem?_setIfInBounds_ne (by omega), Array.getElem?_setIfInBounds_ne (by omega), Array.getElem?_setIfInBounds_ne (by omega), Array.getElem?_setIfInBounds_ne (by omega)]; exact a
    · rw [Array.getElem?_setIfInBounds_ne (by omega), Array.getElem?_setIfInBounds_ne (by omega), Array.getElem?_setIfInBounds_ne (by omega), Array.getElem?_setIfInBounds_ne (by omega)]; exact b
    · rw [Array.getElem?_setIfInBounds_ne (by omega), Array.getElem?_setIfInBounds_ne (by omega), Array.getElem?_setIfInBounds_ne (by omega), Array.getElem?_setIfInBounds_ne (by omega)]; exact d
    · rw [Array.getElem?_setIfInBounds_ne (by omega), Array.getElem?_setIfInBounds_ne (by omega), Array.getElem?_setIfInBounds_ne (by omega), Array.getElem?_setIfInBounds_ne (by omega)]; exact e
  · obtain rfl : j = i := by omega
    rw [List.getElem_append_right (by omega)]
    simp only [hl, Nat.sub_self, List.getElem_cons_zero]
    refine ⟨?_, ?_, ?_, ?_⟩
    · rw [Array.getElem?_setIfInBounds_ne (by omega), Array.getElem?_setIfInBounds_ne (by omega), Array.getElem?_setIfInBounds_ne (by omega), Array.getElem?_setIfInBounds_self_of_lt (by first | omega | (simp only [Array.size_setIfInBounds]; omega))]
    · rw [Array.getElem?_setIfInBounds_ne (by omega), Array.getElem?_setIfInBounds_ne (by omega), Array.getElem?_setIfInBounds_self_of_lt (by first | omega | (simp only [Array.size_setIfInBounds]; omega))]
    · rw [Array.getElem?_setIfInBounds_ne (by omega), Array.getElem?_setIfInBounds_self_of_lt (by first | omega | (simp only [Array.size_setIfInBounds]; omega))]
    · rw [Array.getElem?_setIfInBounds_self_of_lt (by first | omega | (simp only [Array.size_setIfInBounds]; omega))]

theorem FlN.snoc {ps : List (Nat × Nat)} {zs : List (Int × Int)} {x y : Nat} {z : Int × Int} (h : FlN ps zs) (hx : Fl 0 x z.1) (hy : Fl 0 y z.2) : FlN (ps ++ [(x, y)]) (zs ++ [z]) := by
  refine ⟨by simp [h.1], fun i h1 h2 => ?_⟩
  rw [List.length_append] at h1
  simp only [List.length_cons, List.length_nil] at h1
  rcases Nat.lt_or_ge i ps.length with c | c
  · rw [List.getElem_append_left c, List.getElem_append_left (by have := h.1; omega)]
    exact h.2 i c (by have := h.1; omega)
  · obtain rfl : i = ps.length := by omega
    have e : ps.length = zs.length := h.1
    rw [List.getElem_append_right (Nat.le_refl _), List.getElem_append_right (by omega)]
    simp only [e, Nat.sub_self, List.getElem_cons_zero]
    exact ⟨hx, hy⟩


set_option maxHeartbeats 2000000 in
theorem getList_ints (w : World) (B g br : Nat) (s : St) (h : RS w B g s) (hb : Row w br 72 #[.pointer (some ⟨g, 0, none⟩)]) :
    Calls Try.prog 84 #[.pointer (some ⟨g, 0, none⟩), .func (.func 85) #[] #[.pointer (some ⟨br, 0, none⟩)]] w (Got B g (tlist tint s) IsRow w) := by
  have H := Lib.hid h; have HB := Lib.hid hb
  clear h hb
  go_enter Try.func84, Try.ntmps84
  go_wp2_with fail
  refine (rget_any w B g s 8 8 H.out rfl (by omega) (by omega)).mono ?_
  rintro e w1 ⟨rfl, h1, k1⟩
  obtain ⟨cs, hg⟩ := H.out.row
  have hb1 := k1.row1 HB.out hg (by decide)
  have hlt := tget_lt 8 s
  have HBR := Lib.hid hb1
  have HL : Hid (tlist tint s = tmany tint (tget 8 s).1 (tget 8 s).2) := rfl
  obtain ⟨n, hn⟩ : ∃ n, (tget 8 s).1 = n := ⟨_, rfl⟩
  obtain ⟨s1, hs1⟩ : ∃ s1, (tget 8 s).2 = s1 := ⟨_, rfl⟩
  rw [hn] at hlt ⊢
  rw [hn, hs1] at HL
  rw [hs1] at h1
  have n8 : n ≤ 1000 := by omega
  have hmk := make_any 51 3 1 _ _ Try.info3 Try.underlying51 n n8 (by omega)
  have HR1 := Lib.hid h1; have HK1 := Lib.hid k1
  clear h1 k1 hb1 hg hn hs1 hlt
  obtain ⟨gL, hgL⟩ : ∃ gL, gL = w1.heap.size := ⟨_, rfl⟩
  generalize hC : madeCells _ (n * 1) = C0 at hmk
  have hC0 : C0.size = n * 1 := by rw [← hC]; exact size_madeCells _ _
  have HC0 := Lib.hid hC0
  clear hC hC0
  have HRL := Lib.hid (Row.new w1 3 C0)
  have HRS := Lib.hid (HR1.out.fresh ((Below.refl _ _).alloc (Nat.le_refl _) (.cells C0 3)))
  have HKL : Hid (KeptL [gL, g] w (w1.alloc (.cells C0 3))) := (HK1.out.mono in2').alloc _
  have HGL : Hid (w.heap.size ≤ gL) := by rw [hgL]; exact HK1.out.size
  have HBRN : Hid (br ∉ [gL, g]) := by
    obtain ⟨cs, hg⟩ := HR1.out.row
    intro hm
    rcases List.mem_cons.1 hm with e | e
    · have := HBR.out.lt; omega
    · exact Row.ne HBR.out hg (by decide) (List.mem_singleton.1 e)
  rw [← hgL] at HRL
  have HBL := Lib.hid (HBR.out.alloc (.cells C0 3))
  go_wp2_with fail
  rw [← hgL]
  clear hmk hgL
  generalize w1.alloc (.cells C0 3) = w2 at *
  go_loopw [12] (fun k wr => ∃ i : Nat, i ≤ n ∧ k = .int .i64 i ∧ Hid (RS wr B g (tmany tint i s1).2 ∧ (∃ cur, Row wr gL 3 cur ∧ cur.size = n * 1 ∧ ∀ (j : Nat) (u : Value), (ivals (tmany tint i s1).1)[j]? = some u → cur[j]? = some u) ∧ KeptL [gL, g] w2 wr)) (fun k _ => n - (intOf k).toNat)
  case atStart => exact ⟨0, Nat.zero_le _, rfl, HRS.out, ⟨C0, HRL.out, HC0.out, fun j u hu => by simp [tmany, ivals] at hu⟩, KeptL.refl _ _⟩
  case round =>
    obtain ⟨i, hi, rfl, HI⟩ := hrel
    by_cases hlt : i < n
    · have HBI := Lib.hid (HI.out.2.2.row HBL.out HBRN.out)
      go_wp2_with fail
      refine (read_int wr B g br _ HI.out.1 HBI.out).mono ?_
      rintro e w3 ⟨v3, rfl, hv, hRS, hk3⟩
      obtain ⟨cg, hrg⟩ := HI.out.1.row
      obtain ⟨cur, hrow0, hsize, hfill⟩ := HI.out.2.1
      have hrow := hk3.row1 hrow0 hrg (by decide)
      have hK := HI.out.2.2.trans (hk3.mono in2')
      obtain rfl : v3 = .int .i64 (tint (tmany tint i s1).2).1 := hv
      obtain ⟨q0, hq0⟩ : ∃ x, cur[i]? = some x := ⟨_, Array.getElem?_eq_getElem (by omega)⟩
      have m0 := hrow.cell (i); have fz0 := hrow.frozen (i)
      rw [hq0] at m0
      have HSZ := Lib.hid hsize
      have HNX : Hid (RS ((w3.setCell ⟨gL, i, none⟩ (.int .i64 (tint (tmany tint i s1).2).1))) B g (tmany tint (i + 1) s1).2 ∧ (∃ cur, Row ((w3.setCell ⟨gL, i, none⟩ (.int .i64 (tint (tmany tint i s1).2).1))) gL 3 cur ∧ cur.size = n * 1 ∧ ∀ (j : Nat) (u : Value), (ivals (tmany tint (i + 1) s1).1)[j]? = some u → cur[j]? = some u) ∧ KeptL [gL, g] w2 ((w3.setCell ⟨gL, i, none⟩ (.int .i64 (tint (tmany tint i s1).2).1)))) := by
        refine ⟨(hRS.set (i := i) hrow (by decide) (by decide) (.int .i64 (tint (tmany tint i s1).2).1)), ⟨(cur.setIfInBounds (i) (.int .i64 (tint (tmany tint i s1).2).1)), (hrow.set (i) (.int .i64 (tint (tmany tint i s1).2).1)), by simpa using HSZ.out, ?_⟩, (hK.set (p := ⟨gL, i, none⟩) (by simp) (.int .i64 (tint (tmany tint i s1).2).1))⟩
        have e : ivals (tmany tint (i + 1) s1).1 = ivals (tmany tint i s1).1 ++ [.int .i64 (tint (tmany tint i s1).2).1] := by
          show ivals (_ ++ [_]) = _
          rw [← ivals_append]; rfl
        rw [e]
        exact fill_snoc hfill (by rw [ivals_length, tmany_length]) (by have := HSZ.out; omega)
      clear hrow hrow0 hfill hK hk3 hRS hrg hsize hq0
      go_wp2_with fail
      go_roundw
      case rel => exact ⟨i + 1, by omega, by go_num, HNX⟩
      case measure => simp [intOf]; omega
    · have HF : Hid (i = n) := by show _ = _; omega
      go_wp2
      go_ret
      obtain ⟨hRS, ⟨cur, hrow, hsize, hfill⟩, hK⟩ := HI.out
      have hi := HF.out
      subst hi
      rw [HL.out]
      refine ⟨_, rfl, ?_, hRS, (HKL.out.trans hK).fresh HGL.out⟩
      exact Tl.row _ hrow (by rw [ivals_length, tmany_length]) hfill

set_option maxHeartbeats 2000000 in
theorem getList_nodes (w : World) (B g br : Nat) (s : St) (h : RS w B g s) (hb : Row w br 72 #[.pointer (some ⟨g, 0, none⟩)]) :
    Calls Try.prog 58 #[.pointer (some ⟨g, 0, none⟩), .func (.func 59) #[] #[.pointer (some ⟨br, 0, none⟩)]] w (Got B g (tlist tnode s) IsNodes w) := by
  have H := Lib.hid h; have HB := Lib.hid hb
  clear h hb
  go_enter Try.func58, Try.ntmps58
  go_wp2_with fail
  refine (rget_any w B g s 8 8 H.out rfl (by omega) (by omega)).mono ?_
  rintro e w1 ⟨rfl, h1, k1⟩
  obtain ⟨cs, hg⟩ := H.out.row
  have hb1 := k1.row1 HB.out hg (by decide)
  have hlt := tget_lt 8 s
  have HBR := Lib.hid hb1
  have HL : Hid (tlist tnode s = tmany tnode (tget 8 s).1 (tget 8 s).2) := rfl
  obtain ⟨n, hn⟩ : ∃ n, (tget 8 s).1 = n := ⟨_, rfl⟩
  obtain ⟨s1, hs1⟩ : ∃ s1, (tget 8 s).2 = s1 := ⟨_, rfl⟩
  rw [hn] at hlt ⊢
  rw [hn, hs1] at HL
  rw [hs1] at h1
  have n8 : n ≤ 1000 := by omega
  have hmk := make_any 28 47 1 _ _ Try.info47 Try.underlying28 n n8 (by omega)
  have HR1 := Lib.hid h1; have HK1 := Lib.hid k1
  clear h1 k1 hb1 hg hn hs1 hlt
  obtain ⟨gL, hgL⟩ : ∃ gL, gL = w1.heap.size := ⟨_, rfl⟩
  generalize hC : madeCells _ (n * 1) = C0 at hmk
  have hC0 : C0.size = n * 1 := by rw [← hC]; exact size_madeCells _ _
  have HC0 := Lib.hid hC0
  clear hC hC0
  have HRL := Lib.hid (Row.new w1 47 C0)
  have HRS := Lib.hid (HR1.out.fresh ((Below.refl _ _).alloc (Nat.le_refl _) (.cells C0 47)))
  have HKL : Hid (KeptL [gL, g] w (w1.alloc (.cells C0 47))) := (HK1.out.mono in2').alloc _
  have HGL : Hid (w.heap.size ≤ gL) := by rw [hgL]; exact HK1.out.size
  have HBRN : Hid (br ∉ [gL, g]) := by
    obtain ⟨cs, hg⟩ := HR1.out.row
    intro hm
    rcases List.mem_cons.1 hm with e | e
    · have := HBR.out.lt; omega
    · exact Row.ne HBR.out hg (by decide) (List.mem_singleton.1 e)
  rw [← hgL] at HRL
  have HBL := Lib.hid (HBR.out.alloc (.cells C0 47))
  go_wp2_with fail
  rw [← hgL]
  clear hmk hgL
  generalize w1.alloc (.cells C0 47) = w2 at *
  go_loopw [12] (fun k wr => ∃ i : Nat, i ≤ n ∧ k = .int .i64 i ∧ Hid (RS wr B g (tmany tnode i s1).2 ∧ (∃ cur, Row wr gL 47 cur ∧ cur.size = n * 1 ∧ ∃ ps, FlN ps (tmany tnode i s1).1 ∧ ∀ (j : Nat) (u : Value), (nvals ps)[j]? = some u → cur[j]? = some u) ∧ KeptL [gL, g] w2 wr)) (fun k _ => n - (intOf k).toNat)
  case atStart => exact ⟨0, Nat.zero_le _, rfl, HRS.out, ⟨C0, HRL.out, HC0.out, ⟨[], ⟨rfl, fun i h1 _ => absurd h1 (by simp)⟩, fun j u hu => by simp [nvals] at hu⟩⟩, KeptL.refl _ _⟩
  case round =>
    obtain ⟨i, hi, rfl, HI⟩ := hrel
    by_cases hlt : i < n
    · have HBI := Lib.hid (HI.out.2.2.row HBL.out HBRN.out)
      go_wp2_with fail
      refine (read_node wr B g br _ HI.out.1 HBI.out).mono ?_
      rintro e w3 ⟨v3, rfl, hv, hRS, hk3⟩
      obtain ⟨cg, hrg⟩ := HI.out.1.row
      obtain ⟨cur, hrow0, hsize, hfill⟩ := HI.out.2.1
      have hrow := hk3.row1 hrow0 hrg (by decide)
      have hK := HI.out.2.2.trans (hk3.mono in2')
      obtain ⟨x, y, rfl, fx, fy⟩ := hv
      have hsc : ∀ (a : Addr) (m : Mode) (w : World), (store a (.complex .f64 x y) m).run Try.prog w = stored Try.prog w a (.complex .f64 x y) m := fun a m w => run_store Try.prog w a _ m rfl
      obtain ⟨q0, hq0⟩ : ∃ x, cur[i]? = some x := ⟨_, Array.getElem?_eq_getElem (by omega)⟩
      have m0 := hrow.cell (i); have fz0 := hrow.frozen (i)
      rw [hq0] at m0
      have HSZ := Lib.hid hsize
      have HNX : Hid (RS ((w3.setCell ⟨gL, i, none⟩ (.complex .f64 x y))) B g (tmany tnode (i + 1) s1).2 ∧ (∃ cur, Row ((w3.setCell ⟨gL, i, none⟩ (.complex .f64 x y))) gL 47 cur ∧ cur.size = n * 1 ∧ ∃ ps, FlN ps (tmany tnode (i + 1) s1).1 ∧ ∀ (j : Nat) (u : Value), (nvals ps)[j]? = some u → cur[j]? = some u) ∧ KeptL [gL, g] w2 ((w3.setCell ⟨gL, i, none⟩ (.complex .f64 x y)))) := by
        refine ⟨(hRS.set (i := i) hrow (by decide) (by decide) (.complex .f64 x y)), ⟨(cur.setIfInBounds (i) (.complex .f64 x y)), (hrow.set (i) (.complex .f64 x y)), by simpa using HSZ.out, ?_⟩, (hK.set (p := ⟨gL, i, none⟩) (by simp) (.complex .f64 x y))⟩
        obtain ⟨ps, hf, hfl⟩ := hfill
        refine ⟨ps ++ [(x, y)], FlN.snoc hf fx fy, ?_⟩
        have e : nvals (ps ++ [(x, y)]) = nvals ps ++ [.complex .f64 x y] := by rw [← nvals_append]; rfl
        rw [e]
        exact fill_snoc hfl (by rw [nvals_length, hf.1, tmany_length]) (by have := HSZ.out; omega)
      clear hrow hrow0 hfill hK hk3 hRS hrg hsize hq0
      go_wp2_with fail
      go_roundw
      case rel => exact ⟨i + 1, by omega, by go_num, HNX⟩
      case measure => simp [intOf]; omega
    · have HF : Hid (i = n) := by show _ = _; omega
      go_wp2
      go_ret
      obtain ⟨hRS, ⟨cur, hrow, hsize, hfill⟩, hK⟩ := HI.out
      have hi := HF.out
      subst hi
      rw [HL.out]
      refine ⟨_, rfl, ?_, hRS, (HKL.out.trans hK).fresh HGL.out⟩
      obtain ⟨ps, hf, hfl⟩ := hfill
      exact ⟨ps, Tl.row _ hrow (by rw [nvals_length, hf.1, tmany_length]) hfl, hf⟩

set_option maxHeartbeats 1000000 in
theorem read_row (w : World) (B g br : Nat) (s : St) (h : RS w B g s) (hb : Row w br 72 #[.pointer (some ⟨g, 0, none⟩)]) :
    Calls Try.prog 83 #[.pointer (some ⟨br, 0, none⟩)] w (Got B g (trow s) IsRow w) := by
  have h0 := hb.cell 0
  simp only [List.getElem?_toArray, List.getElem?_cons_zero] at h0
  have H := Lib.hid h; have HB := Lib.hid hb
  clear h hb
  go_enter Try.func83, Try.ntmps83
  go_wp2_with fail
  refine (getList_ints w B g br s H.out HB.out).mono ?_
  rintro e w1 ⟨v, rfl, h1, h2, h3⟩
  have H1 : Hid (IsRow w1 v (tlist tint s).1 ∧ RS w1 B g (tlist tint s).2 ∧ KeptL [g] w w1) := ⟨h1, h2, h3⟩
  clear h1 h2 h3
  go_wp2_with fail
  go_ret
  exact ⟨_, rfl, H1.out⟩

set_option maxHeartbeats 2000000 in
theorem getList_rows (w : World) (B g br : Nat) (s : St) (h : RS w B g s) (hb : Row w br 72 #[.pointer (some ⟨g, 0, none⟩)]) :
    Calls Try.prog 82 #[.pointer (some ⟨g, 0, none⟩), .func (.func 83) #[] #[.pointer (some ⟨br, 0, none⟩)]] w (Got B g (tlist trow s) IsRows w) := by
  have H := Lib.hid h; have HB := Lib.hid hb
  clear h hb
  go_enter Try.func82, Try.ntmps82
  go_wp2_with fail
  refine (rget_any w B g s 8 8 H.out rfl (by omega) (by omega)).mono ?_
  rintro e w1 ⟨rfl, h1, k1⟩
  obtain ⟨cs, hg⟩ := H.out.row
  have hb1 := k1.row1 HB.out hg (by decide)
  have hlt := tget_lt 8 s
  have HBR := Lib.hid hb1
  have HL : Hid (tlist trow s = tmany trow (tget 8 s).1 (tget 8 s).2) := rfl
  obtain ⟨n, hn⟩ : ∃ n, (tget 8 s).1 = n := ⟨_, rfl⟩
  obtain ⟨s1, hs1⟩ : ∃ s1, (tget 8 s).2 = s1 := ⟨_, rfl⟩
  rw [hn] at hlt ⊢
  rw [hn, hs1] at HL
  rw [hs1] at h1
  have n8 : n ≤ 1000 := by omega
  have hmk := make_any 30 51 1 _ _ Try.info51 Try.underlying30 n n8 (by omega)
  have HR1 := Lib.hid h1; have HK1 := Lib.hid k1
  clear h1 k1 hb1 hg hn hs1 hlt
  obtain ⟨gL, hgL⟩ : ∃ gL, gL = w1.heap.size := ⟨_, rfl⟩
  generalize hC : madeCells _ (n * 1) = C0 at hmk
  have hC0 : C0.size = n * 1 := by rw [← hC]; exact size_madeCells _ _
  have HC0 := Lib.hid hC0
  clear hC hC0
  have HRL := Lib.hid (Row.new w1 51 C0)
  have HRS := Lib.hid (HR1.out.fresh ((Below.refl _ _).alloc (Nat.le_refl _) (.cells C0 51)))
  have HKL : Hid (KeptL [gL, g] w (w1.alloc (.cells C0 51))) := (HK1.out.mono in2').alloc _
  have HGL : Hid (w.heap.size ≤ gL) := by rw [hgL]; exact HK1.out.size
  have HBRN : Hid (br ∉ [gL, g]) := by
    obtain ⟨cs, hg⟩ := HR1.out.row
    intro hm
    rcases List.mem_cons.1 hm with e | e
    · have := HBR.out.lt; omega
    · exact Row.ne HBR.out hg (by decide) (List.mem_singleton.1 e)
  rw [← hgL] at HRL
  have HBL := Lib.hid (HBR.out.alloc (.cells C0 51))
  go_wp2_with fail
  rw [← hgL]
  clear hmk hgL
  generalize w1.alloc (.cells C0 51) = w2 at *
  go_loopw [12] (fun k wr => ∃ i : Nat, i ≤ n ∧ k = .int .i64 i ∧ Hid (RS wr B g (tmany trow i s1).2 ∧ (∃ cur, Row wr gL 51 cur ∧ cur.size = n * 1 ∧ ∃ vs : List Value, vs.length = i ∧ (∀ (j : Nat) (u : Value), vs[j]? = some u → cur[j]? = some u) ∧ ∀ j (h1 : j < vs.length) (h2 : j < (tmany trow i s1).1.length), Tl wr 3 vs[j] (ivals (tmany trow i s1).1[j])) ∧ KeptL [gL, g] w2 wr)) (fun k _ => n - (intOf k).toNat)
  case atStart => exact ⟨0, Nat.zero_le _, rfl, HRS.out, ⟨C0, HRL.out, HC0.out, ⟨[], rfl, fun j u hu => by simp at hu, fun j h1 _ => absurd h1 (by simp)⟩⟩, KeptL.refl _ _⟩
  case round =>
    obtain ⟨i, hi, rfl, HI⟩ := hrel
    by_cases hlt : i < n
    · have HBI := Lib.hid (HI.out.2.2.row HBL.out HBRN.out)
      go_wp2_with fail
      refine (read_row wr B g br _ HI.out.1 HBI.out).mono ?_
      rintro e w3 ⟨v3, rfl, hv, hRS, hk3⟩
      obtain ⟨cg, hrg⟩ := HI.out.1.row
      obtain ⟨cur, hrow0, hsize, hfill⟩ := HI.out.2.1
      have hrow := hk3.row1 hrow0 hrg (by decide)
      have hK := HI.out.2.2.trans (hk3.mono in2')
      have hv' : Tl w3 3 v3 (ivals (trow (tmany trow i s1).2).1) := hv
      obtain ⟨A3, c3, hv3, -⟩ := hv
      subst hv3
      generalize hlen3 : (ivals (trow (tmany trow i s1).2).1).length = l3 at *
      obtain ⟨q0, hq0⟩ : ∃ x, cur[i]? = some x := ⟨_, Array.getElem?_eq_getElem (by omega)⟩
      have m0 := hrow.cell (i); have fz0 := hrow.frozen (i)
      rw [hq0] at m0
      have HSZ := Lib.hid hsize
      have HNX : Hid (RS ((w3.setCell ⟨gL, i, none⟩ (.slice A3 l3 c3))) B g (tmany trow (i + 1) s1).2 ∧ (∃ cur, Row ((w3.setCell ⟨gL, i, none⟩ (.slice A3 l3 c3))) gL 51 cur ∧ cur.size = n * 1 ∧ ∃ vs : List Value, vs.length = (i + 1) ∧ (∀ (j : Nat) (u : Value), vs[j]? = some u → cur[j]? = some u) ∧ ∀ j (h1 : j < vs.length) (h2 : j < (tmany trow (i + 1) s1).1.length), Tl (w3.setCell ⟨gL, i, none⟩ (.slice A3 l3 c3)) 3 vs[j] (ivals (tmany trow (i + 1) s1).1[j])) ∧ KeptL [gL, g] w2 ((w3.setCell ⟨gL, i, none⟩ (.slice A3 l3 c3)))) := by
        refine ⟨(hRS.set (i := i) hrow (by decide) (by decide) (.slice A3 l3 c3)), ⟨(cur.setIfInBounds (i) (.slice A3 l3 c3)), (hrow.set (i) (.slice A3 l3 c3)), by simpa using HSZ.out, ?_⟩, (hK.set (p := ⟨gL, i, none⟩) (by simp) (.slice A3 l3 c3))⟩
        obtain ⟨vs, hl, hfl, hT⟩ := hfill
        refine ⟨vs ++ [.slice A3 l3 c3], by simp [hl], fill_snoc hfl hl (by have := HSZ.out; omega), fun j h1 h2 => ?_⟩
        have hset : KeptL [gL] w3 (w3.setCell ⟨gL, i, none⟩ (.slice A3 l3 c3)) := (KeptL.refl _ _).set (by simp) _
        have hoth : Other w3 3 [gL] := Other.one hrow (by decide)
        rw [List.length_append] at h1
        simp only [List.length_cons, List.length_nil] at h1
        have e : (tmany trow (i + 1) s1).1 = (tmany trow i s1).1 ++ [(trow (tmany trow i s1).2).1] := rfl
        rcases Nat.lt_or_ge j vs.length with c | c
        · have hj2 : j < (tmany trow i s1).1.length := by rw [tmany_length]; omega
          have h3 := ((hT j c hj2).kept hk3 (Other.one hrg (by decide))).kept hset hoth
          rw [List.getElem_append_left c]
          have e2 : (tmany trow (i + 1) s1).1[j] = (tmany trow i s1).1[j] := by simp only [e]; exact List.getElem_append_left hj2
          rw [e2]; exact h3
        · have hj : j = vs.length := by omega
          subst hj
          rw [List.getElem_append_right (Nat.le_refl _)]
          have e2 : (tmany trow (i + 1) s1).1[vs.length] = (trow (tmany trow i s1).2).1 := by
            simp only [e]
            rw [List.getElem_append_right (by rw [tmany_length]; omega)]
            simp [tmany_length, hl]
          rw [e2]
          simpa using hv'.kept hset hoth
      clear hrow hrow0 hfill hK hk3 hRS hrg hsize hq0
      go_wp2_with fail
      go_roundw
      case rel => exact ⟨i + 1, by omega, by go_num, HNX⟩
      case measure => simp [intOf]; omega
    · have HF : Hid (i = n) := by show _ = _; omega
      go_wp2
      go_ret
      obtain ⟨hRS, ⟨cur, hrow, hsize, hfill⟩, hK⟩ := HI.out
      have hi := HF.out
      subst hi
      rw [HL.out]
      refine ⟨_, rfl, ?_, hRS, (HKL.out.trans hK).fresh HGL.out⟩
      obtain ⟨vs, hl, hfl, hT⟩ := hfill
      exact ⟨vs, Tl.row _ hrow hl hfl, by rw [hl, tmany_length], hT⟩

set_option maxHeartbeats 1000000 in
theorem getRows_any (w : World) (B g : Nat) (s : St) (h : RS w B g s) :
    Calls Try.prog 64 #[.pointer (some ⟨g, 0, none⟩)] w (Got B g (trows s) IsRows w) := by
  have hb := (Below.refl w.heap.size w).alloc (Nat.le_refl _) (.cells #[.pointer (some ⟨g, 0, none⟩)] 72)
  have H := Lib.hid (h.fresh hb); have HB := Lib.hid hb
  have HR := Lib.hid (Row.new w 72 #[.pointer (some ⟨g, 0, none⟩)])
  clear h hb
  go_enter Try.func64, Try.ntmps64
  go_wp2_with fail
  refine (getList_rows _ B g w.heap.size s H.out HR.out).mono ?_
  rintro e w1 ⟨v, rfl, h1, h2, h3⟩
  have H1 : Hid (IsRows w1 v (tlist trow s).1 ∧ RS w1 B g (tlist trow s).2 ∧ KeptL [g] w w1) := ⟨h1, h2, (KeptL.of_below HB.out).trans h3⟩
  clear h1 h2 h3
  go_wp2_with fail
  go_ret
  exact ⟨_, rfl, H1.out⟩

set_option maxHeartbeats 2000000 in
theorem getList_secs (w : World) (B g br : Nat) (s : St) (h : RS w B g s) (hb : Row w br 72 #[.pointer (some ⟨g, 0, none⟩)]) :
    Calls Try.prog 61 #[.pointer (some ⟨g, 0, none⟩), .func (.func 62) #[] #[.pointer (some ⟨br, 0, none⟩)]] w (Got B g (tlist tsec s) IsSecs w) := by
  have H := Lib.hid h; have HB := Lib.hid hb
  clear h hb
  go_enter Try.func61, Try.ntmps61
  go_wp2_with fail
  refine (rget_any w B g s 8 8 H.out rfl (by omega) (by omega)).mono ?_
  rintro e w1 ⟨rfl, h1, k1⟩
  obtain ⟨cs, hg⟩ := H.out.row
  have hb1 := k1.row1 HB.out hg (by decide)
  have hlt := tget_lt 8 s
  have HBR := Lib.hid hb1
  have HL : Hid (tlist tsec s = tmany tsec (tget 8 s).1 (tget 8 s).2) := rfl
  obtain ⟨n, hn⟩ : ∃ n, (tget 8 s).1 = n := ⟨_, rfl⟩
  obtain ⟨s1, hs1⟩ : ∃ s1, (tget 8 s).2 = s1 := ⟨_, rfl⟩
  rw [hn] at hlt ⊢
  rw [hn, hs1] at HL
  rw [hs1] at h1
  have n8 : n ≤ 1000 := by omega
  have hmk := make_any 29 50 3 _ _ Try.info50 Try.underlying29 n n8 (by omega)
  have HR1 := Lib.hid h1; have HK1 := Lib.hid k1
  clear h1 k1 hb1 hg hn hs1 hlt
  obtain ⟨gL, hgL⟩ : ∃ gL, gL = w1.heap.size := ⟨_, rfl⟩
  generalize hC : madeCells _ (n * 3) = C0 at hmk
  have hC0 : C0.size = n * 3 := by rw [← hC]; exact size_madeCells _ _
  have HC0 := Lib.hid hC0
  clear hC hC0
  have HRL := Lib.hid (Row.new w1 50 C0)
  have HRS := Lib.hid (HR1.out.fresh ((Below.refl _ _).alloc (Nat.le_refl _) (.cells C0 50)))
  have HKL : Hid (KeptL [gL, g] w (w1.alloc (.cells C0 50))) := (HK1.out.mono in2').alloc _
  have HGL : Hid (w.heap.size ≤ gL) := by rw [hgL]; exact HK1.out.size
  have HBRN : Hid (br ∉ [gL, g]) := by
    obtain ⟨cs, hg⟩ := HR1.out.row
    intro hm
    rcases List.mem_cons.1 hm with e | e
    · have := HBR.out.lt; omega
    · exact Row.ne HBR.out hg (by decide) (List.mem_singleton.1 e)
  rw [← hgL] at HRL
  have HBL := Lib.hid (HBR.out.alloc (.cells C0 50))
  go_wp2_with fail
  rw [← hgL]
  clear hmk hgL
  generalize w1.alloc (.cells C0 50) = w2 at *
  go_loopw [12] (fun k wr => ∃ i : Nat, i ≤ n ∧ k = .int .i64 i ∧ Hid (RS wr B g (tmany tsec i s1).2 ∧ (∃ cur, Row wr gL 50 cur ∧ cur.size = n * 3 ∧ FillS cur (tmany tsec i s1).1) ∧ KeptL [gL, g] w2 wr)) (fun k _ => n - (intOf k).toNat)
  case atStart => exact ⟨0, Nat.zero_le _, rfl, HRS.out, ⟨C0, HRL.out, HC0.out, fun j h => absurd h (by simp [tmany])⟩, KeptL.refl _ _⟩
  case round =>
    obtain ⟨i, hi, rfl, HI⟩ := hrel
    by_cases hlt : i < n
    · have HBI := Lib.hid (HI.out.2.2.row HBL.out HBRN.out)
      go_wp2_with fail
      refine (read_sec wr B g br _ HI.out.1 HBI.out).mono ?_
      rintro e w3 ⟨v3, rfl, hv, hRS, hk3⟩
      obtain ⟨cg, hrg⟩ := HI.out.1.row
      obtain ⟨cur, hrow0, hsize, hfill⟩ := HI.out.2.1
      have hrow := hk3.row1 hrow0 hrg (by decide)
      have hK := HI.out.2.2.trans (hk3.mono in2')
      obtain rfl : v3 = .agg #[.int .i64 (tsec (tmany tsec i s1).2).1.1, .int .i64 (tsec (tmany tsec i s1).2).1.2.1, .int .i64 (tsec (tmany tsec i s1).2).1.2.2] := hv
      obtain ⟨q0, hq0⟩ : ∃ x, cur[i * 3]? = some x := ⟨_, Array.getElem?_eq_getElem (by omega)⟩
      have m0 := hrow.cell (i * 3); have fz0 := hrow.frozen (i * 3)
      rw [hq0] at m0
      obtain ⟨q1, hq1⟩ : ∃ x, cur[i * 3 + 1]? = some x := ⟨_, Array.getElem?_eq_getElem (by omega)⟩
      have m1 := hrow.cell (i * 3 + 1); have fz1 := hrow.frozen (i * 3 + 1)
      rw [hq1] at m1
      obtain ⟨q2, hq2⟩ : ∃ x, cur[i * 3 + 2]? = some x := ⟨_, Array.getElem?_eq_getElem (by omega)⟩
      have m2 := hrow.cell (i * 3 + 2); have fz2 := hrow.frozen (i * 3 + 2)
      rw [hq2] at m2
      have HSZ := Lib.hid hsize
      have HNX : Hid (RS ((((w3.setCell ⟨gL, i * 3, none⟩ (.int .i64 (tsec (tmany tsec i s1).2).1.1)).setCell ⟨gL, i * 3 + 1, none⟩ (.int .i64 (tsec (tmany tsec i s1).2).1.2.1)).setCell ⟨gL, i * 3 + 2, none⟩ (.int .i64 (tsec (tmany tsec i s1).2).1.2.2))) B g (tmany tsec (i + 1) s1).2 ∧ (∃ cur, Row ((((w3.setCell ⟨gL, i * 3, none⟩ (.int .i64 (tsec (tmany tsec i s1).2).1.1)).setCell ⟨gL, i * 3 + 1, none⟩ (.int .i64 (tsec (tmany tsec i s1).2).1.2.1)).setCell ⟨gL, i * 3 + 2, none⟩ (.int .i64 (tsec (tmany tsec i s1).2).1.2.2))) gL 50 cur ∧ cur.size = n * 3 ∧ FillS cur (tmany tsec (i + 1) s1).1) ∧ KeptL [gL, g] w2 ((((w3.setCell ⟨gL, i * 3, none⟩ (.int .i64 (tsec (tmany tsec i s1).2).1.1)).setCell ⟨gL, i * 3 + 1, none⟩ (.int .i64 (tsec (tmany tsec i s1).2).1.2.1)).setCell ⟨gL, i * 3 + 2, none⟩ (.int .i64 (tsec (tmany tsec i s1).2).1.2.2)))) := by
        refine ⟨(((hRS.set (i := i * 3) hrow (by decide) (by decide) (.int .i64 (tsec (tmany tsec i s1).2).1.1)).set (i := i * 3 + 1) (hrow.set (i * 3) (.int .i64 (tsec (tmany tsec i s1).2).1.1)) (by decide) (by decide) (.int .i64 (tsec (tmany tsec i s1).2).1.2.1)).set (i := i * 3 + 2) ((hrow.set (i * 3) (.int .i64 (tsec (tmany tsec i s1).2).1.1)).set (i * 3 + 1) (.int .i64 (tsec (tmany tsec i s1).2).1.2.1)) (by decide) (by decide) (.int .i64 (tsec (tmany tsec i s1).2).1.2.2)), ⟨(((cur.setIfInBounds (i * 3) (.int .i64 (tsec (tmany tsec i s1).2).1.1)).setIfInBounds (i * 3 + 1) (.int .i64 (tsec (tmany tsec i s1).2).1.2.1)).setIfInBounds (i * 3 + 2) (.int .i64 (tsec (tmany tsec i s1).2).1.2.2)), (((hrow.set (i * 3) (.int .i64 (tsec (tmany tsec i s1).2).1.1)).set (i * 3 + 1) (.int .i64 (tsec (tmany tsec i s1).2).1.2.1)).set (i * 3 + 2) (.int .i64 (tsec (tmany tsec i s1).2).1.2.2)), by simpa using HSZ.out, ?_⟩, (((hK.set (p := ⟨gL, i * 3, none⟩) (by simp) (.int .i64 (tsec (tmany tsec i s1).2).1.1)).set (p := ⟨gL, i * 3 + 1, none⟩) (by simp) (.int .i64 (tsec (tmany tsec i s1).2).1.2.1)).set (p := ⟨gL, i * 3 + 2, none⟩) (by simp) (.int .i64 (tsec (tmany tsec i s1).2).1.2.2))⟩
        exact FillS.snoc hfill (tmany_length _ _ _) hlt HSZ.out
      clear hrow hrow0 hfill hK hk3 hRS hrg hsize hq0 hq1 hq2
      go_wp2_with fail
      go_roundw
      case rel => exact ⟨i + 1, by omega, by go_num, HNX⟩
      case measure => simp [intOf]; omega
    · have HF : Hid (i = n) := by show _ = _; omega
      go_wp2
      go_ret
      obtain ⟨hRS, ⟨cur, hrow, hsize, hfill⟩, hK⟩ := HI.out
      have hi := HF.out
      subst hi
      rw [HL.out]
      refine ⟨_, rfl, ?_, hRS, (HKL.out.trans hK).fresh HGL.out⟩
      exact ⟨_, _, by rw [tmany_length]; rfl, fun _ => ⟨gL, cur, (0, 0), rfl, hrow, hfill⟩⟩

set_option maxHeartbeats 2000000 in
theorem getList_points (w : World) (B g br : Nat) (s : St) (h : RS w B g s) (hb : Row w br 72 #[.pointer (some ⟨g, 0, none⟩)]) :
    Calls Try.prog 65 #[.pointer (some ⟨g, 0, none⟩), .func (.func 66) #[] #[.pointer (some ⟨br, 0, none⟩)]] w (Got B g (tlist tpoint s) IsPoints w) := by
  have H := Lib.hid h; have HB := Lib.hid hb
  clear h hb
  go_enter Try.func65, Try.ntmps65
  go_wp2_with fail
  refine (rget_any w B g s 8 8 H.out rfl (by omega) (by omega)).mono ?_
  rintro e w1 ⟨rfl, h1, k1⟩
  obtain ⟨cs, hg⟩ := H.out.row
  have hb1 := k1.row1 HB.out hg (by decide)
  have hlt := tget_lt 8 s
  have HBR := Lib.hid hb1
  have HL : Hid (tlist tpoint s = tmany tpoint (tget 8 s).1 (tget 8 s).2) := rfl
  obtain ⟨n, hn⟩ : ∃ n, (tget 8 s).1 = n := ⟨_, rfl⟩
  obtain ⟨s1, hs1⟩ : ∃ s1, (tget 8 s).2 = s1 := ⟨_, rfl⟩
  rw [hn] at hlt ⊢
  rw [hn, hs1] at HL
  rw [hs1] at h1
  have n8 : n ≤ 1000 := by omega
  have hmk := make_any 31 53 4 _ _ Try.info53 Try.underlying31 n n8 (by omega)
  have HR1 := Lib.hid h1; have HK1 := Lib.hid k1
  clear h1 k1 hb1 hg hn hs1 hlt
  obtain ⟨gL, hgL⟩ : ∃ gL, gL = w1.heap.size := ⟨_, rfl⟩
  generalize hC : madeCells _ (n * 4) = C0 at hmk
  have hC0 : C0.size = n * 4 := by rw [← hC]; exact size_madeCells _ _
  have HC0 := Lib.hid hC0
  clear hC hC0
  have HRL := Lib.hid (Row.new w1 53 C0)
  have HRS := Lib.hid (HR1.out.fresh ((Below.refl _ _).alloc (Nat.le_refl _) (.cells C0 53)))
  have HKL : Hid (KeptL [gL, g] w (w1.alloc (.cells C0 53))) := (HK1.out.mono in2').alloc _
  have HGL : Hid (w.heap.size ≤ gL) := by rw [hgL]; exact HK1.out.size
  have HBRN : Hid (br ∉ [gL, g]) := by
    obtain ⟨cs, hg⟩ := HR1.out.row
    intro hm
    rcases List.mem_cons.1 hm with e | e
    · have := HBR.out.lt; omega
    · exact Row.ne HBR.out hg (by decide) (List.mem_singleton.1 e)
  rw [← hgL] at HRL
  have HBL := Lib.hid (HBR.out.alloc (.cells C0 53))
  go_wp2_with fail
  rw [← hgL]
  clear hmk hgL
  generalize w1.alloc (.cells C0 53) = w2 at *
  go_loopw [12] (fun k wr => ∃ i : Nat, i ≤ n ∧ k = .int .i64 i ∧ Hid (RS wr B g (tmany tpoint i s1).2 ∧ (∃ cur, Row wr gL 53 cur ∧ cur.size = n * 4 ∧ FillP cur (tmany tpoint i s1).1) ∧ KeptL [gL, g] w2 wr)) (fun k _ => n - (intOf k).toNat)
  case atStart => exact ⟨0, Nat.zero_le _, rfl, HRS.out, ⟨C0, HRL.out, HC0.out, fun j h => absurd h (by simp [tmany])⟩, KeptL.refl _ _⟩
  case round =>
    obtain ⟨i, hi, rfl, HI⟩ := hrel
    by_cases hlt : i < n
    · have HBI := Lib.hid (HI.out.2.2.row HBL.out HBRN.out)
      go_wp2_with fail
      refine (read_point wr B g br _ HI.out.1 HBI.out).mono ?_
      rintro e w3 ⟨v3, rfl, hv, hRS, hk3⟩
      obtain ⟨cg, hrg⟩ := HI.out.1.row
      obtain ⟨cur, hrow0, hsize, hfill⟩ := HI.out.2.1
      have hrow := hk3.row1 hrow0 hrg (by decide)
      have hK := HI.out.2.2.trans (hk3.mono in2')
      obtain rfl : v3 = .agg #[.int .i64 (tpoint (tmany tpoint i s1).2).1.1, .int .i64 (tpoint (tmany tpoint i s1).2).1.2.1, .int .i64 (tpoint (tmany tpoint i s1).2).1.2.2.1, .int .i64 (tpoint (tmany tpoint i s1).2).1.2.2.2] := hv
      obtain ⟨q0, hq0⟩ : ∃ x, cur[i * 4]? = some x := ⟨_, Array.getElem?_eq_getElem (by omega)⟩
      have m0 := hrow.cell (i * 4); have fz0 := hrow.frozen (i * 4)
      rw [hq0] at m0
      obtain ⟨q1, hq1⟩ : ∃ x, cur[i * 4 + 1]? = some x := ⟨_, Array.getElem?_eq_getElem (by omega)⟩
      have m1 := hrow.cell (i * 4 + 1); have fz1 := hrow.frozen (i * 4 + 1)
      rw [hq1] at m1
      obtain ⟨q2, hq2⟩ : ∃ x, cur[i * 4 + 2]? = some x := ⟨_, Array.getElem?_eq_getElem (by omega)⟩
      have m2 := hrow.cell (i * 4 + 2); have fz2 := hrow.frozen (i * 4 + 2)
      rw [hq2] at m2
      obtain ⟨q3, hq3⟩ : ∃ x, cur[i * 4 + 3]? = some x := ⟨_, Array.getElem?_eq_getElem (by omega)⟩
      have m3 := hrow.cell (i * 4 + 3); have fz3 := hrow.frozen (i * 4 + 3)
      rw [hq3] at m3
      have HSZ := Lib.hid hsize
      have HNX : Hid (RS (((((w3.setCell ⟨gL, i * 4, none⟩ (.int .i64 (tpoint (tmany tpoint i s1).2).1.1)).setCell ⟨gL, i * 4 + 1, none⟩ (.int .i64 (tpoint (tmany tpoint i s1).2).1.2.1)).setCell ⟨gL, i * 4 + 2, none⟩ (.int .i64 (tpoint (tmany tpoint i s1).2).1.2.2.1)).setCell ⟨gL, i * 4 + 3, none⟩ (.int .i64 (tpoint (tmany tpoint i s1).2).1.2.2.2))) B g (tmany tpoint (i + 1) s1).2 ∧ (∃ cur, Row (((((w3.setCell ⟨gL, i * 4, none⟩ (.int .i64 (tpoint (tmany tpoint i s1).2).1.1)).setCell ⟨gL, i * 4 + 1, none⟩ (.int .i64 (tpoint (tmany tpoint i s1).2).1.2.1)).setCell ⟨gL, i * 4 + 2, none⟩ (.int .i64 (tpoint (tmany tpoint i s1).2).1.2.2.1)).setCell ⟨gL, i * 4 + 3, none⟩ (.int .i64 (tpoint (tmany tpoint i s1).2).1.2.2.2))) gL 53 cur ∧ cur.size = n * 4 ∧ FillP cur (tmany tpoint (i + 1) s1).1) ∧ KeptL [gL, g] w2 (((((w3.setCell ⟨gL, i * 4, none⟩ (.int .i64 (tpoint (tmany tpoint i s1).2).1.1)).setCell ⟨gL, i * 4 + 1, none⟩ (.int .i64 (tpoint (tmany tpoint i s1).2).1.2.1)).setCell ⟨gL, i * 4 + 2, none⟩ (.int .i64 (tpoint (tmany tpoint i s1).2).1.2.2.1)).setCell ⟨gL, i * 4 + 3, none⟩ (.int .i64 (tpoint (tmany tpoint i s1).2).1.2.2.2)))) := by
        refine ⟨((((hRS.set (i := i * 4) hrow (by decide) (by decide) (.int .i64 (tpoint (tmany tpoint i s1).2).1.1)).set (i := i * 4 + 1) (hrow.set (i * 4) (.int .i64 (tpoint (tmany tpoint i s1).2).1.1)) (by decide) (by decide) (.int .i64 (tpoint (tmany tpoint i s1).2).1.2.1)).set (i := i * 4 + 2) ((hrow.set (i * 4) (.int .i64 (tpoint (tmany tpoint i s1).2).1.1)).set (i * 4 + 1) (.int .i64 (tpoint (tmany tpoint i s1).2).1.2.1)) (by decide) (by decide) (.int .i64 (tpoint (tmany tpoint i s1).2).1.2.2.1)).set (i := i * 4 + 3) (((hrow.set (i * 4) (.int .i64 (tpoint (tmany tpoint i s1).2).1.1)).set (i * 4 + 1) (.int .i64 (tpoint (tmany tpoint i s1).2).1.2.1)).set (i * 4 + 2) (.int .i64 (tpoint (tmany tpoint i s1).2).1.2.2.1)) (by decide) (by decide) (.int .i64 (tpoint (tmany tpoint i s1).2).1.2.2.2)), ⟨((((cur.setIfInBounds (i * 4) (.int .i64 (tpoint (tmany tpoint i s1).2).1.1)).setIfInBounds (i * 4 + 1) (.int .i64 (tpoint (tmany tpoint i s1).2).1.2.1)).setIfInBounds (i * 4 + 2) (.int .i64 (tpoint (tmany tpoint i s1).2).1.2.2.1)).setIfInBounds (i * 4 + 3) (.int .i64 (tpoint (tmany tpoint i s1).2).1.2.2.2)), ((((hrow.set (i * 4) (.int .i64 (tpoint (tmany tpoint i s1).2).1.1)).set (i * 4 + 1) (.int .i64 (tpoint (tmany tpoint i s1).2).1.2.1)).set (i * 4 + 2) (.int .i64 (tpoint (tmany tpoint i s1).2).1.2.2.1)).set (i * 4 + 3) (.int .i64 (tpoint (tmany tpoint i s1).2).1.2.2.2)), by simpa using HSZ.out, ?_⟩, ((((hK.set (p := ⟨gL, i * 4, none⟩) (by simp) (.int .i64 (tpoint (tmany tpoint i s1).2).1.1)).set (p := ⟨gL, i * 4 + 1, none⟩) (by simp) (.int .i64 (tpoint (tmany tpoint i s1).2).1.2.1)).set (p := ⟨gL, i * 4 + 2, none⟩) (by simp) (.int .i64 (tpoint (tmany tpoint i s1).2).1.2.2.1)).set (p := ⟨gL, i * 4 + 3, none⟩) (by simp) (.int .i64 (tpoint (tmany tpoint i s1).2).1.2.2.2))⟩
        exact FillP.snoc hfill (tmany_length _ _ _) hlt HSZ.out
      clear hrow hrow0 hfill hK hk3 hRS hrg hsize hq0 hq1 hq2 hq3
      go_wp2_with fail
      go_roundw
      case rel => exact ⟨i + 1, by omega, by go_num, HNX⟩
      case measure => simp [intOf]; omega
    · have HF : Hid (i = n) := by show _ = _; omega
      go_wp2
      go_ret
      obtain ⟨hRS, ⟨cur, hrow, hsize, hfill⟩, hK⟩ := HI.out
      have hi := HF.out
      subst hi
      rw [HL.out]
      refine ⟨_, rfl, ?_, hRS, (HKL.out.trans hK).fresh HGL.out⟩
      exact ⟨_, _, by rw [tmany_length]; rfl, fun _ => ⟨gL, cur, (0, 0), rfl, hrow, hfill⟩⟩

end Go.Proofs.Ythpfhcelmddjlaa
