/- Contracts: endAt, pointAt, through, across. Contracts: through. Contracts: across. Contracts: Around. Contracts: eachOnce, Near. Contracts: Near. Contracts: Clone of points. Contracts: New. -/
import Derived.Test.YtagkgejdammflaaGreatGA
import Derived.Test.YtagkgejdammflaaGreatShelf
import Derived.Laws.StructEq
import Derived.Sort.OwnSortedInts
import Derived.Lib.OwnBridge
import Derived.Sort.Grow
import Derived.Lib.SliceRun
namespace Go.Proofs.YtagkgejdammflaaGreat
open Go.RowKit Fl
set_option maxRecDepth 100000

theorem Prs.take {w : World} {D n c : Nat} {A : Option Addr} {xs : List (Int × Int)} (h : Prs w D (.slice A n c) xs) (k : Nat) (hk : k ≤ xs.length) : Prs w D (.slice A k c) (xs.take k) := by
  obtain ⟨A', c', hv, ⟨h0, hc⟩, hx⟩ := h
  injection hv with e1 e2 e3
  subst e1 e3
  have hl : (xs.take k).length = k := by simp; omega
  refine ⟨A, c, by rw [hl], ⟨h0, by omega⟩, fun hp => ?_⟩
  obtain ⟨b, o, cur, fr, hA, hb, hh, hcc⟩ := hx (by omega)
  refine ⟨b, o, cur, fr, hA, hb, hh, fun j hj => ?_⟩
  have := hcc j (by omega)
  simpa using this

def oneL (ss : List (Int × Int × Int)) (s n : Int) : List (Int × Int) := (endsOfL ss s n).take 1

set_option maxHeartbeats 1000000 in
theorem endAt_any (w : World) (D : Nat) (v : Value) (L : Lay) (s n : Int) (h : IsGr w D v L) (hL : Fits L) :
    Calls Tryz.prog 124 #[v, .int .i64 s, .int .i64 n] w (RetEnds (oneL L.secs s n) w) := by
  have HE : Hid (oneL L.secs s n = (endsOfL L.secs s n).take 1) := rfl
  have hle := endsOfL_le L.secs s n
  have HI := Lib.hid h
  obtain ⟨g, vS, vQ, vP, rfl, -⟩ := h
  generalize oneL L.secs s n = r at *
  go_enter Tryz.func124, Tryz.ntmps124
  go_wp2_with fail
  refine (endsOf_any w D _ L s n HI.out hL).mono ?_; rintro e w1 ⟨v1, rfl, ho1, hb1⟩
  obtain ⟨A1, c1, hv1⟩ := own_slice ho1
  subst hv1
  have hcap := own_cap ho1
  have HP := Lib.hid (Prs.of_own ho1)
  have HB := Lib.hid hb1
  clear ho1 hb1
  generalize endsOfL L.secs s n = ys at *
  rcases Nat.eq_zero_or_pos ys.length with h0 | h0
  · have HT := Lib.hid (HP.out.take 0 (Nat.zero_le _))
    have HY : Hid (r = []) := by show _ = _; rw [HE.out, List.length_eq_zero_iff.1 h0]; rfl
    rw [h0] at hcap ⊢
    clear h0 HP HE hle
    go_wp2_with fail
    go_ret
    rw [HY.out]
    exact ⟨_, rfl, HT.out, HB.out⟩
  · have HT := Lib.hid (HP.out.take 1 h0)
    have hmin : min (1 : Int) (ys.length : Int) = 1 := by omega
    clear HP
    go_wp2_with fail
    go_ret
    rw [HE.out]
    exact ⟨_, rfl, HT.out, HB.out⟩

/-- The point over which a train comes that leaves at an end. -/
def pointAtL (L : Lay) (e : Int × Int) : Int := match nodeL L.secs e with
  | some n => pointL L.points n
  | none => -1

set_option maxHeartbeats 1000000 in
theorem pointAt_any (w : World) (D : Nat) (v : Value) (L : Lay) (s k : Int) (h : IsGr w D v L) (hD : D ≤ w.heap.size) (hL : Fits L) :
    Calls Tryz.prog 104 #[v, .agg #[.int .i64 s, .int .i64 k]] w fun e w' => e = .returned (.int .i64 (pointAtL L (s, k))) ∧ Below w.heap.size w w' := by
  have hb0 := (Below.refl w.heap.size w).alloc (Nat.le_refl _) (.cells #[.int .i64 s, .int .i64 k] 60)
  have HI := Lib.hid (h.keep hb0 hD)
  have HB0 := Lib.hid hb0
  obtain ⟨g, vS, vQ, vP, rfl, -⟩ := h
  clear hb0
  have HE : Hid (pointAtL L (s, k) = match nodeL L.secs (s, k) with | some n => pointL L.points n | none => -1) := rfl
  generalize pointAtL L (s, k) = r at *
  have hD1 : D ≤ (w.alloc (.cells #[.int .i64 s, .int .i64 k] 60)).heap.size := by simp; omega
  go_enter Tryz.func104, Tryz.ntmps104
  go_wp2_with fail
  refine (node_any _ D _ L s k HI.out hD1 hL).mono ?_; rintro e w1 ⟨rfl, hb1⟩
  have HB1 := Lib.hid (HB0.out.trans (hb1.mono HB0.out.size))
  have HI1 := Lib.hid (HI.out.keep hb1 hD1)
  have hD2 : D ≤ w1.heap.size := by have := HB1.out.size; omega
  clear hb1
  cases hn : nodeL L.secs (s, k) with
  | none =>
    rw [hn] at HE
    have HE2 : Hid (r = -1) := HE.out
    clear HE hn
    simp only [Option.getD_none, Option.isSome_none]
    go_wp2_with fail
    go_ret
    exact ⟨ret_int HE2.out.symm, HB1.out⟩
  | some n =>
    rw [hn] at HE
    have HE2 : Hid (r = pointL L.points n) := HE.out
    clear HE hn
    simp only [Option.getD_some, Option.isSome_some]
    go_wp2_with fail
    refine (point_any w1 D _ L n HI1.out hD2 hL).mono ?_; rintro e w2 ⟨rfl, hb2⟩
    have HB2 := Lib.hid (HB1.out.trans (hb2.mono HB1.out.size))
    clear hb2
    go_wp2_with fail
    go_ret
    exact ⟨ret_int HE2.out.symm, HB2.out⟩

end Go.Proofs.YtagkgejdammflaaGreat

namespace Go.Proofs.YtagkgejdammflaaGreat
open Go.RowKit Fl
set_option maxRecDepth 100000

/-- The ends to which a point leads from a section, if just these sides are open. -/
def throughL (ss : List (Int × Int × Int)) (p : Int × Int × Int × Int) (f : Int) (sides : List Int) : List (Int × Int) :=
  if f = p.2.1 then sides.flatMap (fun s => oneL ss s p.1) else if sides.contains f then oneL ss p.2.1 p.1 else []

theorem oneL_le (ss : List (Int × Int × Int)) (s n : Int) : (oneL ss s n).length ≤ 1 := by unfold oneL; simp; omega
theorem ones_le (ss : List (Int × Int × Int)) (n : Int) : ∀ xs : List Int, (xs.flatMap (fun s => oneL ss s n)).length ≤ xs.length
  | [] => by simp
  | a :: r => by have := ones_le ss n r; have := oneL_le ss a n; simp only [List.flatMap_cons, List.length_append, List.length_cons]; omega

theorem ints_at' {w : World} {b o : Nat} {xs : List Int} (h : ∀ (j : Nat) (u : Value), (ivals xs)[j]? = some u → w.cell? ⟨b, o + j, none⟩ = some u) : ∀ j, j < xs.length → w.cell? ⟨b, o + j, none⟩ = some (.int .i64 (xs.getD j 0)) := by
  intro j hj
  apply h
  simp [ivals, List.getD, hj]

set_option maxHeartbeats 2000000 in
theorem through_any (w : World) (D : Nat) (v vs : Value) (L : Lay) (nd st lf rt f : Int) (xs : List Int) (h : IsGr w D v L) (hD : D ≤ w.heap.size) (hL : Fits L) (hs : Rd w w.heap.size vs (ivals xs)) (hx0 : 0 < xs.length) (hx1 : xs.length ≤ 2) :
    Calls Tryz.prog 116 #[v, .agg #[.int .i64 nd, .int .i64 st, .int .i64 lf, .int .i64 rt], .int .i64 f, vs] w (RetEnds (throughL L.secs (nd, st, lf, rt) f xs) w) := by
  have hb0 := (Below.refl w.heap.size w).alloc (Nat.le_refl _) (.cells #[.int .i64 nd, .int .i64 st, .int .i64 lf, .int .i64 rt] 41)
  have HI := Lib.hid (h.keep hb0 hD)
  have HB0 := Lib.hid hb0
  have HRW := Lib.hid (Row.new w 41 #[.int .i64 nd, .int .i64 st, .int .i64 lf, .int .i64 rt])
  have HSD := Lib.hid (hs.up hb0)
  obtain ⟨g, vS, vQ, vP, rfl, -⟩ := h
  obtain ⟨A, c, rfl, -, -⟩ := hs
  clear hb0
  have hvl : (ivals xs).length = xs.length := by simp [ivals]
  rw [hvl] at HSD ⊢
  have HE : Hid (throughL L.secs (nd, st, lf, rt) f xs = if f = st then xs.flatMap (fun s => oneL L.secs s nd) else if xs.contains f then oneL L.secs st nd else []) := rfl
  generalize throughL L.secs (nd, st, lf, rt) f xs = r at *
  obtain ⟨b, o, hA, -, hcc⟩ : ∃ b o, A = some ⟨b, o, none⟩ ∧ b < (w.alloc (.cells #[.int .i64 nd, .int .i64 st, .int .i64 lf, .int .i64 rt] 41)).heap.size ∧ ∀ (j : Nat) (u : Value), (ivals xs)[j]? = some u → (w.alloc (.cells #[.int .i64 nd, .int .i64 st, .int .i64 lf, .int .i64 rt] 41)).cell? ⟨b, o + j, none⟩ = some u := by
    obtain ⟨A', c', e, _, hx⟩ := HSD.out
    obtain ⟨b, o, hA, hb, hc⟩ := hx (by omega)
    injection e with e1
    exact ⟨b, o, e1.trans hA, hb, hc⟩
  subst hA
  have HC := Lib.hid (ints_at' hcc)
  have hbl : b < (w.alloc (.cells #[.int .i64 nd, .int .i64 st, .int .i64 lf, .int .i64 rt] 41)).heap.size := cell_lt (HC.out 0 hx0)
  clear hcc hvl
  have hD1 : D ≤ (w.alloc (.cells #[.int .i64 nd, .int .i64 st, .int .i64 lf, .int .i64 rt] 41)).heap.size := by simp; omega
  obtain ⟨i4, hi4, hz40, hz41, hz42⟩ := info_parts Tryz.info60
  go_enter Tryz.func116, Tryz.ntmps116
  go_upto_region 1 with (fail)
  obtain ⟨n0, hn0⟩ : ∃ n, n = w.heap.size := ⟨_, rfl⟩
  rw [← hn0] at HRW HB0 ⊢
  have HN0 := Lib.hid hn0
  clear hn0 hD
  generalize w.alloc (.cells #[.int .i64 nd, .int .i64 st, .int .i64 lf, .int .i64 rt] 41) = W0 at *
  have e0 := HRW.out.cell 0; have e1 := HRW.out.cell 1
  simp only [List.getElem?_toArray, List.getElem?_cons_zero, List.getElem?_cons_succ] at e0 e1
  by_cases hf : f = st
  · have HE2 : Hid (r = xs.flatMap (fun s => oneL L.secs s nd)) := by show _ = _; rw [HE.out, if_pos hf]
    clear HE
    subst hf
    go_wp2_with fail
    clear e0 e1
    go_loopw [9, 28] (fun t k wr => ∃ i : Nat, i ≤ xs.length ∧ k = .int .i64 i ∧ Hid (wr.ownsRow W0.heap.size 60 2 t ((xs.take i).flatMap (fun s => oneL L.secs s nd)).length (ecells ((xs.take i).flatMap (fun s => oneL L.secs s nd))) ∧ Below W0.heap.size W0 wr)) (fun _ k _ => xs.length - (intOf k).toNat)
    case atStart => exact ⟨0, Nat.zero_le _, rfl, World.ownsRow_nil _ _ _ _, Below.refl _ _⟩
    case round =>
      obtain ⟨i, hi, rfl, HJ⟩ := hrel
      by_cases hlt : i < xs.length
      · have HS : Hid ((xs.take (i + 1)).flatMap (fun s => oneL L.secs s nd) = (xs.take i).flatMap (fun s => oneL L.secs s nd) ++ oneL L.secs xs[i] nd) := by
          show _ = _
          rw [List.take_succ_eq_append_getElem hlt, List.flatMap_append]; simp
        have hb1 := ones_le L.secs nd (xs.take i)
        have hb2 := oneL_le L.secs xs[i] nd
        have hb3 : (xs.take i).length ≤ 2 := by simp; omega
        have ec : wr.cell? ⟨b, o + i, none⟩ = some (.int .i64 xs[i]) := by
          have h1 := HC.out i hlt
          have h2 : xs.getD i 0 = xs[i] := by simp [List.getD, hlt]
          rw [h2] at h1
          exact (HJ.out.2.cell (p := ⟨b, o + i, none⟩) hbl).trans h1
        have rr := Below.row HJ.out.2 HRW.out HRW.out.lt
        have e0 := rr.cell 0
        simp only [List.getElem?_toArray, List.getElem?_cons_zero] at e0
        clear rr
        generalize xs[i] = z at *
        go_wp2_with fail
        refine (endAt_any wr D _ L z nd (HI.out.keep HJ.out.2 hD1) hL).mono ?_; rintro e w1 ⟨v1, rfl, hp1, hb⟩
        obtain ⟨A1, c1, hv1, hp⟩ := id hp1
        subst hv1
        obtain ⟨A5, c5, hv5⟩ := own_slice HJ.out.1
        subst hv5
        have HO := Lib.hid (own_below HJ.out.1 hb)
        have HP := Lib.hid hp1
        have HB : Hid (Below W0.heap.size W0 w1) := HJ.out.2.trans (hb.mono HJ.out.2.size)
        clear hb hp1 hp e0 ec
        generalize oneL L.secs z nd = ys at *
        generalize (xs.take i).flatMap (fun s => oneL L.secs s nd) = zs at *
        go_wp2_with (at_builtin; refine wpList_app_prs rfl (.tmp 32) (.tmp 37) 61 rfl W0.heap.size 60 i4 _ Tryz.underlying61 hi4 hz40 hz41 hz42 rfl _ _ zs rfl HO.out _ ys rfl HP.out (by omega) HB.out.size ?_)
        intro v5 w5 hown5 hgrow5
        have HNX : Hid (w5.ownsRow W0.heap.size 60 2 v5 ((xs.take (i + 1)).flatMap (fun s => oneL L.secs s nd)).length (ecells ((xs.take (i + 1)).flatMap (fun s => oneL L.secs s nd))) ∧ Below W0.heap.size W0 w5) := by
          refine ⟨?_, HB.out.grown hgrow5 HB.out.size (fun k hk => (HO.out.lt k hk).1)⟩
          rw [HS.out, List.length_append]; exact hown5
        clear hown5 hgrow5
        go_wp2_with fail
        go_roundw
        case rel => exact ⟨i + 1, by omega, by go_num, HNX⟩
        case measure => simp [intOf]; omega
      · have HIE : Hid (i = xs.length) := by show _ = _; omega
        go_wp2_with fail
        go_ret
        have h1 := HJ.out.1
        rw [HIE.out, List.take_length] at h1
        rw [HE2.out]
        exact ⟨_, rfl, Prs.of_own h1, by rw [← HN0.out]; exact HB0.out.trans (HJ.out.2.mono (by have := HRW.out.lt; omega))⟩
  · have HE2 : Hid (r = if xs.contains f then oneL L.secs st nd else []) := by show _ = _; rw [HE.out, if_neg hf]
    clear HE
    go_wp2_with fail
    refine (Tryz.slices_Contains_int b o xs.length c xs f W0 (Nat.le_refl _) (by omega) HC.out).mono ?_; rintro e w' ⟨rfl, rfl⟩
    rw [List.take_length]
    cases hct : xs.contains f with
    | false =>
      have HE3 : Hid (r = []) := by show _ = _; rw [HE2.out, hct]; rfl
      clear HE2 hct
      go_wp2_with fail
      go_ret
      rw [HE3.out]
      exact ⟨_, rfl, Prs.nil _ _, by rw [← HN0.out]; exact HB0.out⟩
    | true =>
      have HE3 : Hid (r = oneL L.secs st nd) := by show _ = _; rw [HE2.out, hct]; rfl
      clear HE2 hct
      go_wp2_with fail
      refine (endAt_any _ D _ L st nd HI.out hL).mono ?_; rintro e w1 ⟨v1, rfl, hp1, hb⟩
      have HP := Lib.hid hp1
      have HB1 : Hid (Below n0 w w1) := HB0.out.trans (hb.mono (by have := HRW.out.lt; omega))
      clear hp1 hb
      go_wp2_with fail
      go_ret
      rw [HE3.out]
      exact ⟨_, rfl, HP.out, by rw [← HN0.out]; exact HB1.out⟩

end Go.Proofs.YtagkgejdammflaaGreat

namespace Go.Proofs.YtagkgejdammflaaGreat
open Go.RowKit Fl
set_option maxRecDepth 100000

theorem eql_end (a b c d : Int) (w : World) : (binOp .eql 60 (.agg #[.int .i64 a, .int .i64 b]) (.agg #[.int .i64 c, .int .i64 d])).run Tryz.prog w = .ok (.bool (a == c && b == d)) w := by
  rw [run_eql_struct, run_equalIn_struct w 9999 60 _ _ (by kernel_rfl) (by kernel_rfl)]
  simp [Program.fieldsOf, Tryz.underlying60, go_sem]
  by_cases h : a = c
  · by_cases h2 : b = d <;> simp [h, h2]
  · simp [h]

/-- The other one of two ends. -/
def acrossL (es : List (Int × Int)) (e : Int × Int) : List (Int × Int) := match es with
  | [a, b] => if a = e then [b] else [a]
  | _ => []

theorem Prs.two {w : World} {D c b o : Nat} {cur : Array Value} {fr : Nat × Nat} {x y : Int × Int} (hb : b < D) (hc : 2 ≤ c) (hh : w.heap[b]? = some (.cells cur 60 fr)) (h : ∀ j (h : j < [x, y].length), cur[o + j * 2]? = some (.int .i64 [x, y][j].1) ∧ cur[o + j * 2 + 1]? = some (.int .i64 [x, y][j].2)) :
    Prs w D (.slice (some ⟨b, o, none⟩) 1 c) [x] ∧ Prs w D (.slice (some ⟨b, o + 2, none⟩) 1 (c - 1)) [y] := by
  have h0 := h 0 (by simp); have h1 := h 1 (by simp)
  simp only [List.getElem_cons_zero, List.getElem_cons_succ] at h0 h1
  refine ⟨⟨_, _, rfl, ⟨(fun e => by cases e), by simp; omega⟩, fun _ => ⟨b, o, cur, fr, rfl, hb, hh, fun j hj => ?_⟩⟩, ⟨_, _, rfl, ⟨(fun e => by cases e), by simp; omega⟩, fun _ => ⟨b, o + 2, cur, fr, rfl, hb, hh, fun j hj => ?_⟩⟩⟩
  · have : j = 0 := by simp at hj; exact hj
    subst this; exact h0
  · have : j = 0 := by simp at hj; exact hj
    subst this; exact h1

set_option maxHeartbeats 2000000 in
theorem across_any (w : World) (D : Nat) (v : Value) (L : Lay) (s k n : Int) (h : IsGr w D v L) (hD : D ≤ w.heap.size) (hL : Fits L) :
    Calls Tryz.prog 117 #[v, .agg #[.int .i64 s, .int .i64 k], .int .i64 n] w (RetEnds (acrossL (endsL L.secs n) (s, k)) w) := by
  have hb0 := (Below.refl w.heap.size w).alloc (Nat.le_refl _) (.cells #[.int .i64 s, .int .i64 k] 60)
  have HI := Lib.hid (h.keep hb0 hD)
  have HB0 := Lib.hid hb0
  have HRW := Lib.hid (Row.new w 60 #[.int .i64 s, .int .i64 k])
  obtain ⟨g, vS, vQ, vP, rfl, -⟩ := h
  have hD1 : D ≤ (w.alloc (.cells #[.int .i64 s, .int .i64 k] 60)).heap.size := by simp; omega
  clear hb0
  go_enter Tryz.func117, Tryz.ntmps117
  go_upto_region 1 with (fail)
  obtain ⟨n0, hn0⟩ : ∃ n, n = w.heap.size := ⟨_, rfl⟩
  rw [← hn0] at HRW HB0 ⊢
  have HN0 := Lib.hid hn0
  clear hn0 hD
  generalize w.alloc (.cells #[.int .i64 s, .int .i64 k] 60) = W0 at *
  go_wp2_with fail
  refine (ends_any W0 D _ L n HI.out hD1 hL).mono ?_; rintro e w1 ⟨v1, rfl, ho1, hb1⟩
  obtain ⟨A1, c1, hv1⟩ := own_slice ho1
  subst hv1
  have hcap := own_cap ho1
  have HP := Lib.hid (Prs.of_own ho1)
  have HB1 : Hid (Below n0 w w1) := HB0.out.trans (hb1.mono (by have := HRW.out.lt; omega))
  have HR1 := Lib.hid (Below.row hb1 HRW.out HRW.out.lt)
  clear ho1 hb1
  generalize endsL L.secs n = es at *
  by_cases hl : es.length = 2
  · match es, hl with
    | [x, y], _ =>
      obtain ⟨A', c', hv, -, hx⟩ := HP.out
      injection hv with q1 q2 q3
      subst q1 q3
      obtain ⟨b, o, cur, fr, hA, hb, hh, hc⟩ := hx (by simp)
      subst hA
      simp only [List.length_cons, List.length_nil, Nat.zero_add] at hcap HP ⊢
      have HT := Lib.hid (Prs.two hb hcap hh hc)
      have h0 := hc 0 (by simp)
      simp only [List.getElem_cons_zero, Nat.zero_mul, Nat.add_zero] at h0
      obtain ⟨k0, k1⟩ := h0
      have g0 : w1.cell? ⟨b, o, none⟩ = some (.int .i64 x.1) := by simp [World.cell?, hh, k0]
      have g1 : w1.cell? ⟨b, o + 1, none⟩ = some (.int .i64 x.2) := by simp [World.cell?, hh, k1]
      have e0 := HR1.out.cell 0; have e1 := HR1.out.cell 1
      simp only [List.getElem?_toArray, List.getElem?_cons_zero, List.getElem?_cons_succ] at e0 e1
      have HE : Hid (acrossL [x, y] (s, k) = if x = (s, k) then [y] else [x]) := rfl
      generalize acrossL [x, y] (s, k) = r at *
      clear hc hx HP k0 k1 hh
      obtain ⟨x0, x1⟩ := x
      simp only at g0 g1
      have qe := eql_end x0 x1 s k
      go_upto_region 4 with (fail)
      by_cases hxe : x0 = s ∧ x1 = k
      · obtain ⟨h1, h2⟩ := hxe
        have HE2 : Hid (r = [y]) := by show _ = _; rw [HE.out, if_pos (by rw [h1, h2])]
        have hq : (x0 == s && x1 == k) = true := by rw [h1, h2]; simp
        rw [hq] at qe
        clear HE h1 h2 hq
        go_quiet (fail)
        clear qe g0 g1 e0 e1
        go_wp2_with fail
        go_ret
        rw [HE2.out]
        exact ⟨_, rfl, HT.out.2.mono (Nat.le_refl _) (fun _ _ => rfl), by rw [← HN0.out]; exact ⟨HB1.out.os, HB1.out.tape, HB1.out.output, HB1.out.size, HB1.out.block⟩⟩
      · have HE2 : Hid (r = [(x0, x1)]) := by
          show _ = _
          rw [HE.out, if_neg (by intro e; injection e with e1 e2; exact hxe ⟨e1, e2⟩)]
        have hq : (x0 == s && x1 == k) = false := by
          rw [Bool.and_eq_false_iff]
          by_cases h1 : x0 = s
          · right; simp; exact fun h2 => hxe ⟨h1, h2⟩
          · left; simpa using h1
        rw [hq] at qe
        clear HE hxe hq
        go_quiet (fail)
        clear qe g0 g1 e0 e1
        go_wp2_with fail
        go_ret
        rw [HE2.out]
        exact ⟨_, rfl, HT.out.1.mono (Nat.le_refl _) (fun _ _ => rfl), by rw [← HN0.out]; exact ⟨HB1.out.os, HB1.out.tape, HB1.out.output, HB1.out.size, HB1.out.block⟩⟩
  · have HE : Hid (acrossL es (s, k) = []) := by
      show _ = _
      unfold acrossL
      split
      · simp at hl
      · rfl
    generalize acrossL es (s, k) = r at *
    have hl2 : ¬ (es.length : Int) = 2 := by omega
    go_wp2_with fail
    go_ret
    rw [HE.out]
    exact ⟨_, rfl, Prs.nil _ _, by rw [← HN0.out]; exact HB1.out⟩

end Go.Proofs.YtagkgejdammflaaGreat

namespace Go.Proofs.YtagkgejdammflaaGreat
open Go.RowKit Fl
set_option maxRecDepth 100000

/-- The ends at which a train that leaves at an end may come into the next section. -/
def aroundL (L : Lay) (e : Int × Int) : List (Int × Int) := match nodeL L.secs e with
  | none => []
  | some n => if 0 ≤ pointL L.points n then
      (let p := L.points.getD (pointL L.points n).toNat (0, 0, 0, 0)
       throughL L.secs p e.1 [p.2.2.1, p.2.2.2])
    else acrossL (endsL L.secs n) e

theorem pointL_lt {ps : List (Int × Int × Int × Int)} {n : Int} (h : 0 ≤ pointL ps n) : ∃ i : Nat, pointL ps n = (i : Int) ∧ i < ps.length := by
  unfold pointL at h ⊢
  cases e : ps.findIdx? (fun p => decide (p.1 = n)) with
  | none => rw [e] at h; simp at h
  | some i =>
    refine ⟨i, rfl, ?_⟩
    rw [List.findIdx?_eq_some_iff_getElem] at e
    exact e.1

theorem Gr.points {w : World} {D g : Nat} {vS vQ vP : Value} {L : Lay} (h : Gr w D g vS vQ vP L) : ∃ A c, vQ = .slice A L.points.length c := by
  obtain ⟨A, c, hv, _⟩ := h.q; exact ⟨A, c, hv⟩

theorem Rd.two (w : World) (a b : Int) : Rd (w.alloc (.cells #[.int .i64 a, .int .i64 b] 3)) (w.alloc (.cells #[.int .i64 a, .int .i64 b] 3)).heap.size (.slice (some ⟨w.heap.size, 0, none⟩) 2 2) (ivals [a, b]) := by
  have h := World.ownsRow_lit (base := 0) (e := 3) (size := 1) w #[.int .i64 a, .int .i64 b] 2 (Nat.zero_le _) (by unfold maxLen; omega) rfl
  exact Rd.of_own h

set_option maxHeartbeats 4000000 in
theorem around_any (w : World) (D : Nat) (v : Value) (L : Lay) (s k : Int) (h : IsGr w D v L) (hD : D ≤ w.heap.size) (hL : Fits L) :
    Calls Tryz.prog 101 #[v, .agg #[.int .i64 s, .int .i64 k]] w (RetEnds (aroundL L (s, k)) w) := by
  have hb0 := (Below.refl w.heap.size w).alloc (Nat.le_refl _) (.cells #[.int .i64 s, .int .i64 k] 60)
  have HI := Lib.hid (h.keep hb0 hD)
  have HB0 := Lib.hid hb0
  have HRW := Lib.hid (Row.new w 60 #[.int .i64 s, .int .i64 k])
  obtain ⟨g, vS, vQ, vP, rfl, -⟩ := h
  have hD1 : D ≤ (w.alloc (.cells #[.int .i64 s, .int .i64 k] 60)).heap.size := by simp; omega
  clear hb0
  have HL := Lib.hid hL
  have hq := hL.q
  clear hL
  obtain ⟨r, hr⟩ : ∃ r, aroundL L (s, k) = r := ⟨_, rfl⟩
  rw [hr]
  have HE : Hid (r = match nodeL L.secs (s, k) with
    | none => []
    | some n => if 0 ≤ pointL L.points n then
        (let p := L.points.getD (pointL L.points n).toNat (0, 0, 0, 0)
         throughL L.secs p s [p.2.2.1, p.2.2.2])
      else acrossL (endsL L.secs n) (s, k)) := by rw [← hr]; rfl
  clear hr
  go_enter Tryz.func101, Tryz.ntmps101
  go_upto_region 1 with (fail)
  obtain ⟨n0, hn0⟩ : ∃ n, n = w.heap.size := ⟨_, rfl⟩
  rw [← hn0] at HRW HB0 ⊢
  have HN0 := Lib.hid hn0
  clear hn0 hD
  generalize w.alloc (.cells #[.int .i64 s, .int .i64 k] 60) = W0 at *
  have e0 := HRW.out.cell 0; have e1 := HRW.out.cell 1
  simp only [List.getElem?_toArray, List.getElem?_cons_zero, List.getElem?_cons_succ] at e0 e1
  go_wp2_with fail
  refine (node_any W0 D _ L s k HI.out hD1 HL.out).mono ?_; rintro e w1 ⟨rfl, hb1⟩
  have HB1 : Hid (Below n0 w w1) := HB0.out.trans (hb1.mono (by have := HRW.out.lt; omega))
  have HR1 := Lib.hid (Below.row hb1 HRW.out HRW.out.lt)
  have HI1 := Lib.hid (HI.out.keep hb1 hD1)
  have hD2 : D ≤ w1.heap.size := by have := hb1.size; omega
  clear hb1 e0 e1 HI HRW HB0 hD1
  cases hn : nodeL L.secs (s, k) with
  | none =>
    rw [hn] at HE
    have HE2 : Hid (r = []) := HE.out
    clear HE hn
    simp only [Option.getD_none, Option.isSome_none]
    go_wp2_with fail
    go_ret
    rw [HE2.out]
    exact ⟨_, rfl, Prs.nil _ _, by rw [← HN0.out]; exact HB1.out⟩
  | some n =>
    rw [hn] at HE
    simp only [Option.getD_some, Option.isSome_some] at HE ⊢
    clear hn
    go_wp2_with fail
    refine (point_any w1 D _ L n HI1.out hD2 HL.out).mono ?_; rintro e w2 ⟨rfl, hb2⟩
    have HB2 : Hid (Below n0 w w2) := HB1.out.trans (hb2.mono (by have := HR1.out.lt; omega))
    have HR2 := Lib.hid (Below.row hb2 HR1.out HR1.out.lt)
    have HI2 := Lib.hid (HI1.out.keep hb2 hD2)
    have hD3 : D ≤ w2.heap.size := by have := hb2.size; omega
    clear hb2 HI1 HR1 HB1 hD2
    by_cases hp : 0 ≤ pointL L.points n
    · obtain ⟨i, hi, hlt⟩ := pointL_lt hp
      have HE2 : Hid (r = throughL L.secs L.points[i] s [L.points[i].2.2.1, L.points[i].2.2.2]) := by
        show _ = _
        have h1 := HE.out
        rw [if_pos hp, hi] at h1
        have h2 : L.points.getD i (0, 0, 0, 0) = L.points[i] := by simp [List.getD, hlt]
        simp only [Int.toNat_natCast, h2] at h1
        exact h1
      rw [hi]
      clear HE hi hp
      obtain ⟨g', vS', vQ', vP', e1, hg⟩ := HI2.out
      injection e1 with e1
      injection e1 with e1
      injection e1 with e1
      subst e1
      obtain ⟨A, c, hA⟩ := hg.points
      subst hA
      have f1 := hg.row.cell 1
      simp only [List.getElem?_toArray, List.getElem?_cons_zero, List.getElem?_cons_succ] at f1
      obtain ⟨b, o, rfl, -, c0, c1, c2, c3⟩ := hg.q.at i hlt
      clear hg
      generalize L.points[i] = z at *
      generalize hm : L.points.length = m at *
      obtain ⟨z0, z1, z2, z3⟩ := z
      simp only at c0 c1 c2 c3 HE2
      have HM := Lib.hid hm
      clear hm
      have hb3 := (Below.refl w2.heap.size w2).alloc (Nat.le_refl _) (.cells #[.int .i64 z0, .int .i64 z1, .int .i64 z2, .int .i64 z3] 41)
      have HB3 : Hid (Below n0 w (w2.alloc (.cells #[.int .i64 z0, .int .i64 z1, .int .i64 z2, .int .i64 z3] 41))) := HB2.out.trans (hb3.mono (by have := HR2.out.lt; omega))
      have HR3 := Lib.hid (HR2.out.alloc (.cells #[.int .i64 z0, .int .i64 z1, .int .i64 z2, .int .i64 z3] 41))
      have HI3 := Lib.hid (HI2.out.keep hb3 hD3)
      have HS3 := Lib.hid (Row.new w2 41 #[.int .i64 z0, .int .i64 z1, .int .i64 z2, .int .i64 z3])
      have hD4 : D ≤ (w2.alloc (.cells #[.int .i64 z0, .int .i64 z1, .int .i64 z2, .int .i64 z3] 41)).heap.size := by simp; omega
      clear hb3 HI2 HR2 HB2
      go_upto_region 7 with (fail)
      obtain ⟨a3, ha3⟩ : ∃ n, n = w2.heap.size := ⟨_, rfl⟩
      rw [← ha3] at HS3 ⊢
      clear ha3 c0 c1 c2 c3 f1 hD3
      generalize w2.alloc (.cells #[.int .i64 z0, .int .i64 z1, .int .i64 z2, .int .i64 z3] 41) = w3 at *
      have e0 := HR3.out.cell 0; have e1 := HR3.out.cell 1
      have p0 := HS3.out.cell 0; have p1 := HS3.out.cell 1; have p2 := HS3.out.cell 2; have p3 := HS3.out.cell 3
      simp only [List.getElem?_toArray, List.getElem?_cons_zero, List.getElem?_cons_succ] at e0 e1 p0 p1 p2 p3
      have hb4 := (Below.refl w3.heap.size w3).alloc (Nat.le_refl _) (.cells #[.int .i64 z2, .int .i64 z3] 3)
      have HB4 : Hid (Below n0 w (w3.alloc (.cells #[.int .i64 z2, .int .i64 z3] 3))) := HB3.out.trans (hb4.mono (by have := HR3.out.lt; omega))
      have HI4 := Lib.hid (HI3.out.keep hb4 hD4)
      have HRD := Lib.hid (Rd.two w3 z2 z3)
      clear hb4
      go_wp2_with fail
      refine (through_any (w3.alloc (.cells #[.int .i64 z2, .int .i64 z3] 3)) D _ _ L z0 z1 z2 z3 s [z2, z3] HI4.out (by simp; omega) HL.out HRD.out (by simp) (by simp)).mono ?_; rintro e w5 ⟨v5, rfl, hp5, hb5⟩
      have HP5 := Lib.hid hp5
      have HB5 : Hid (Below n0 w w5) := HB4.out.trans (hb5.mono (by have := HR3.out.lt; simp; omega))
      clear hp5 hb5
      go_wp2_with fail
      go_ret
      rw [HE2.out]
      exact ⟨_, rfl, HP5.out, by rw [← HN0.out]; exact HB5.out⟩
    · have HE2 : Hid (r = acrossL (endsL L.secs n) (s, k)) := by show _ = _; rw [HE.out, if_neg hp]
      clear HE
      have e0 := HR2.out.cell 0; have e1 := HR2.out.cell 1
      simp only [List.getElem?_toArray, List.getElem?_cons_zero, List.getElem?_cons_succ] at e0 e1
      generalize pointL L.points n = pp at *
      go_wp2_with fail
      refine (across_any w2 D _ L s k n HI2.out hD3 HL.out).mono ?_; rintro e w3 ⟨v3, rfl, hp3, hb3⟩
      have HP3 := Lib.hid hp3
      have HB3 : Hid (Below n0 w w3) := HB2.out.trans (hb3.mono (by have := HR2.out.lt; omega))
      clear hp3 hb3
      go_wp2_with fail
      go_ret
      rw [HE2.out]
      exact ⟨_, rfl, HP3.out, by rw [← HN0.out]; exact HB3.out⟩

end Go.Proofs.YtagkgejdammflaaGreat

namespace Go.Proofs.YtagkgejdammflaaGreat
open Go.RowKit Fl Go.Sort
set_option maxRecDepth 100000

/-- Rising, each once. -/
def riseL (xs : List Int) : List Int := Lib.compact (xs.mergeSort fun x y => decide (x ≤ y))
theorem riseL_le (xs : List Int) : (riseL xs).length ≤ xs.length := by
  have h1 := Lib.compact_length_le (xs.mergeSort fun x y => decide (x ≤ y))
  rw [List.length_mergeSort] at h1; exact h1
theorem riseL_nil : riseL [] = [] := by
  have := riseL_le []
  exact List.length_eq_zero_iff.1 (by simpa using this)

def RetOwn (B : Nat) (xs : List Int) (w : World) (e : Ending) (w' : World) : Prop := ∃ v', e = .returned v' ∧ w'.ownsRow B 3 1 v' xs.length (ivals xs) ∧ Below B w w'

set_option maxHeartbeats 1000000 in
theorem eachOnce_any (w : World) (B : Nat) (v : Value) (xs : List Int) (ho : w.ownsRow B 3 1 v xs.length (ivals xs)) (hB : B ≤ w.heap.size) (hl : xs.length ≤ 100000) : Calls Tryz.prog 84 #[v] w (RetOwn B (riseL xs) w) := by
  rcases ho.2 with ⟨rfl, h0⟩ | ⟨g, cap, cur, rfl, hbase, hb, h1, h2, h3, h4⟩
  · have hx : xs = [] := List.length_eq_zero_iff.1 h0
    subst hx
    rw [riseL_nil]
    clear ho h0 hl
    go_enter Tryz.func84, Tryz.ntmps84
    go_wp2_with fail
    refine (Tryz.slices_Sort_int_none none 0 w).mono ?_; rintro e w' ⟨rfl, rfl⟩
    go_wp2_with fail
    refine (Tryz.slices_Compact_int_empty none 0 _).mono ?_; rintro e w' ⟨rfl, rfl⟩
    go_wp2_with fail
    go_ret
    exact ⟨_, rfl, World.ownsRow_nil _ _ _ _, Below.refl _ _⟩
  · have HH := Lib.hid (holds_of_blockI (ss := xs) hb (by rw [Nat.mul_one] at h4; exact h4))
    have hgl := heap_lt hb
    obtain ⟨ts, hts⟩ : ∃ ts, ts = xs.mergeSort fun x y => decide (x ≤ y) := ⟨_, rfl⟩
    have hl2 : ts.length = xs.length := by rw [hts]; exact List.length_mergeSort xs
    have HR : Hid (riseL xs = Lib.compact ts) := by show _ = _; rw [hts]; rfl
    have hle := Lib.compact_length_le ts
    obtain ⟨r, hr⟩ : ∃ r, riseL xs = r := ⟨_, rfl⟩
    rw [hr] at HR ⊢
    have HT := Lib.hid hts
    have HL2 := Lib.hid hl2
    have HOW : Hid (∀ n os, (grow (putRow (Value.int .i64) (Sort.ahead w n) g 0 ts.toArray) os).ownsRow B 3 1 (.slice (some ⟨g, 0, none⟩) xs.length cap) xs.length (ts.map (Value.int .i64))) := fun n os => ownsRow_sortedI hl2 hbase hb h1 h2 h3
    clear ho hb h3 h4 hr hts hl2
    obtain ⟨m, hm⟩ : ∃ m, xs.length = m := ⟨_, rfl⟩
    have HM := Lib.hid hm
    have hS := Tryz.slices_Sort_int g 0 cap xs w HH.out hgl (by omega)
    rw [hm] at hS HOW hl h1 HL2 ⊢
    have HS := Lib.hid hS
    clear hS hm
    go_enter Tryz.func84, Tryz.ntmps84
    go_wp2_with fail
    refine HS.out.mono ?_; rintro e w1 ⟨rfl, nn, os, hw1⟩
    rw [← HT.out] at hw1
    have HO1 : Hid (w1.ownsRow B 3 1 (.slice (some ⟨g, 0, none⟩) m cap) m (ts.map (Value.int .i64))) := by rw [hw1]; exact HOW.out nn os
    have HB1 : Hid (Below B w w1) := by
      rw [hw1]
      exact (Below.refl B w).grown (grownBy_sortedI _) hB (fun j hj => by cases hj; exact hbase)
    clear hw1
    have hH1 : Holds (Value.int .i64) w1 g 0 ts.toArray := by
      rcases HO1.out.2 with ⟨e0, _⟩ | ⟨g', cap', cur', e0, _, hb', _, _, _, h4'⟩
      · cases e0
      · injection e0 with e1 _ _
        injection e1 with e1
        injection e1 with e1
        subst e1
        exact holds_of_blockI hb' (by have := HL2.out; rw [Nat.mul_one] at h4'; rw [this]; exact h4')
    have hC := Tryz.slices_Compact_int g 0 cap ts w1 hH1 (by have := HL2.out; omega) (by have := HL2.out; omega)
    rw [HL2.out] at hC
    have HC := Lib.hid hC
    clear hC hH1
    go_wp2_with fail
    refine HC.out.mono ?_; rintro e w2 ⟨rfl, q, hw2⟩
    have HO2 : Hid (w2.ownsRow B 3 1 (.slice (some ⟨g, 0, none⟩) (Lib.compact ts).length cap) (Lib.compact ts).length (ivals (Lib.compact ts))) := by
      rw [hw2]
      have hc := Lib.ownsRow_putRow (q := q) (k := (Lib.compact ts).length) (ys := Lib.compact ts ++ List.replicate (m - (Lib.compact ts).length) 0) HO1.out (by have := HL2.out; simp; omega) (by have := HL2.out; omega)
      rw [List.take_left] at hc
      exact hc
    have HB2 : Hid (Below B w w2) := by rw [hw2]; exact Lib.below_putRow HB1.out hbase
    clear hw2
    go_wp2_with fail
    go_ret
    rw [HR.out]
    exact ⟨_, rfl, HO2.out, HB2.out⟩

end Go.Proofs.YtagkgejdammflaaGreat

namespace Go.Proofs.YtagkgejdammflaaGreat
open Go.RowKit Fl
set_option maxRecDepth 100000

theorem Tryz.info3n : (Tryz.prog.info? 3).map (fun i => (i.zero, i.size, i.bytes)) = some (some (.int .i64 0), 1, 8) := by kernel_rfl

theorem throughL_le (ss : List (Int × Int × Int)) (p : Int × Int × Int × Int) (f : Int) (a b : Int) : (throughL ss p f [a, b]).length ≤ 2 := by
  unfold throughL
  split
  · exact ones_le ss p.1 [a, b]
  · split
    · have := oneL_le ss p.2.1 p.1; omega
    · simp
theorem acrossL_le (es : List (Int × Int)) (e : Int × Int) : (acrossL es e).length ≤ 1 := by
  unfold acrossL
  split
  · split <;> simp
  · simp
theorem aroundL_le (L : Lay) (e : Int × Int) : (aroundL L e).length ≤ 2 := by
  unfold aroundL
  split
  · simp
  · split
    · exact throughL_le _ _ _ _ _
    · have := acrossL_le (endsL L.secs ‹Int›) e; omega

def nearTo (L : Lay) (s : Int) : Nat → List Int
  | 0 => []
  | i + 1 => nearTo L s i ++ (aroundL L (s, (i : Int))).map (·.1)
theorem nearTo_le (L : Lay) (s : Int) : ∀ i, (nearTo L s i).length ≤ 2 * i
  | 0 => by simp [nearTo]
  | i + 1 => by have := nearTo_le L s i; have := aroundL_le L (s, (i : Int)); simp only [nearTo, List.length_append, List.length_map]; omega
/-- All sections that join one. -/
def nearL (L : Lay) (s : Int) : List Int := riseL (nearTo L s 2)

theorem firsts_take (xs : List (Int × Int)) (j : Nat) (h : j < xs.length) : (xs.take j).map (·.1) ++ [xs[j].1] = (xs.take (j + 1)).map (·.1) := by
  rw [List.take_succ_eq_append_getElem h, List.map_append]; rfl

end Go.Proofs.YtagkgejdammflaaGreat

namespace Go.Proofs.YtagkgejdammflaaGreat
open Go.RowKit Fl
set_option maxRecDepth 100000

theorem Tryz.info74n : (Tryz.prog.info? 41).map (fun i => (i.zero, i.size, i.bytes)) = some (some (.agg #[.int .i64 0, .int .i64 0, .int .i64 0, .int .i64 0]), 4, 32) := by kernel_rfl

theorem pcells_len (xs : List (Int × Int × Int × Int)) : (pcells xs).length = xs.length * 4 := by
  induction xs with
  | nil => rfl
  | cons a r ih => simp [pcells] at ih ⊢; omega
theorem pcells_one (xs : List (Int × Int × Int × Int)) : ∀ u ∈ pcells xs, u.oneCell' = true := by
  intro u hu; simp only [pcells, List.mem_flatMap] at hu; obtain ⟨x, _, h⟩ := hu; simp at h; rcases h with rfl | rfl | rfl | rfl <;> rfl

theorem Pts.cells {w : World} {D n c : Nat} {A : Option Addr} {xs : List (Int × Int × Int × Int)} (h : Pts w D (.slice A n c) xs) (hp : 0 < xs.length) : ∃ b o, A = some ⟨b, o, none⟩ ∧ b < D ∧ ∀ j u, (pcells xs)[j]? = some u → w.cell? ((⟨b, o, none⟩ : Addr).add j) = some u := by
  obtain ⟨b, o, hA, hb, -⟩ := h.at 0 hp
  subst hA
  refine ⟨b, o, rfl, hb, fun j u hu => ?_⟩
  have hj : j < xs.length * 4 := by have := (List.getElem?_eq_some_iff.1 hu).1; rw [pcells_len] at this; exact this
  have hadd : ((⟨b, o, none⟩ : Addr).add j) = ⟨b, o + j, none⟩ := by simp [Addr.add]
  rw [hadd]
  have hk : j / 4 < xs.length := by omega
  obtain ⟨a1, a2, a3, a4⟩ := pcells_get xs (j / 4) hk
  obtain ⟨b', o', hA', _, c1, c2, c3, c4⟩ := h.at (j / 4) hk
  injection hA' with hA'
  injection hA' with e1 e2
  subst e1 e2
  rcases (show j % 4 = 0 ∨ j % 4 = 1 ∨ j % 4 = 2 ∨ j % 4 = 3 by omega) with e | e | e | e
  · have ej : j = j / 4 * 4 := by omega
    rw [ej] at hu ⊢; rw [a1] at hu; rw [← hu]; exact c1
  · have ej : j = j / 4 * 4 + 1 := by omega
    rw [ej] at hu ⊢; rw [a2] at hu; rw [← hu, ← Nat.add_assoc]; exact c2
  · have ej : j = j / 4 * 4 + 2 := by omega
    rw [ej] at hu ⊢; rw [a3] at hu; rw [← hu, ← Nat.add_assoc]; exact c3
  · have ej : j = j / 4 * 4 + 3 := by omega
    rw [ej] at hu ⊢; rw [a4] at hu; rw [← hu, ← Nat.add_assoc]; exact c4

theorem Pts.of_own {w : World} {B n : Nat} {t : TypeId} {v : Value} {xs : List (Int × Int × Int × Int)} (h : w.ownsRow B t 4 v n (pcells xs)) : Pts w w.heap.size v xs := by
  have hn : xs.length = n := by have := h.1; rw [pcells_len] at this; omega
  subst hn
  rcases h.2 with ⟨rfl, h0⟩ | ⟨g, cap, cur, hv, _, hh, hcap, _⟩
  · exact ⟨none, 0, by rw [h0], fun hp => by omega⟩
  · subst hv
    refine ⟨_, _, rfl, fun _ => ⟨g, 0, rfl, heap_lt hh, fun j hj => ?_⟩⟩
    obtain ⟨a, b, c, d⟩ := pcells_get xs j hj
    rw [Nat.zero_add]
    exact ⟨by rw [h.cellAt _ (by omega)]; exact a, by rw [h.cellAt _ (by omega)]; exact b, by rw [h.cellAt _ (by omega)]; exact c, by rw [h.cellAt _ (by omega)]; exact d⟩

def RetPts (ps : List (Int × Int × Int × Int)) (w : World) (e : Ending) (w' : World) : Prop := ∃ v', e = .returned v' ∧ Pts w' w'.heap.size v' ps ∧ Below w.heap.size w w'

set_option maxHeartbeats 1000000 in
theorem clone37 (w : World) (D : Nat) (v : Value) (ps : List (Int × Int × Int × Int)) (h : Pts w D v ps) (hl : ps.length ≤ 1000) : Calls Tryz.prog 32 #[v] w (RetPts ps w) := by
  have hP := h
  obtain ⟨A, c, rfl, hx⟩ := h
  obtain ⟨i4, hi4, hz40, hz41, hz42⟩ := info_parts Tryz.info74n
  cases A with
  | none =>
    have h0 : ps = [] := by
      rcases Nat.eq_zero_or_pos ps.length with e | e
      · exact List.length_eq_zero_iff.1 e
      · obtain ⟨b, o, e1, _⟩ := hx e; cases e1
    subst h0
    have kn := fun (w : World) (l c : Nat) => Lib.run_eql_slice_nil (P := Tryz.prog) w 31 41 none l c 0 0 Tryz.underlying31
    clear hx hP
    go_enter Tryz.func32, Tryz.ntmps32
    go_wp2_with fail
    go_ret
    exact ⟨_, rfl, ⟨none, 0, rfl, fun hp => absurd hp (by simp)⟩, Below.refl _ _⟩
  | some ad =>
    have kn := fun (w : World) (l c : Nat) => Lib.run_eql_slice_nil (P := Tryz.prog) w 31 41 (some ad) l c 0 0 Tryz.underlying31
    have HN : Hid (∀ j u, (pcells ps)[j]? = some u → (w.alloc (.cells #[] 41)).cell? (ad.add j) = some u) := fun j u hu => by
      have hpos : 0 < ps.length := by have := (List.getElem?_eq_some_iff.1 hu).1; rw [pcells_len] at this; omega
      obtain ⟨b, o, e, _, hc⟩ := hP.cells hpos
      injection e with e
      subst e
      exact cell_alloc (hc j u hu)
    have HO : Hid ((w.alloc (.cells #[] 41)).ownsRow w.heap.size 41 4 (.slice (some ⟨w.heap.size, 0, none⟩) 0 0) 0 []) := World.ownsRow_lit w #[] 0 (Nat.le_refl _) (by unfold maxLen; omega) rfl
    have HB := Lib.hid ((Below.refl w.heap.size w).alloc (Nat.le_refl _) (.cells #[] 41))
    clear hx hP
    go_enter Tryz.func32, Tryz.ntmps32
    go_wp2_with (at_builtin; refine wpList_append_own _ rfl (.tmp 5) (.tmp 6) 31 rfl w.heap.size 41 i4 (.agg #[.int .i64 0, .int .i64 0, .int .i64 0, .int .i64 0]) 4 32 Tryz.underlying31 hi4 hz40 hz41 hz42 rfl (by decide) _ _ _ rfl HO.out ad ps.length c (pcells ps) rfl (pcells_len ps) HN.out (pcells_one ps) (by unfold maxLen; omega) (by omega) (by simp) ?_)
    intro v5 w5 hown5 hgrow5 _
    have HO5 : Hid (w5.ownsRow w.heap.size 41 4 v5 ps.length (pcells ps)) := hown5
    have HB5 : Hid (Below w.heap.size w w5) := HB.out.grown hgrow5 (by simp) (fun k hk => (HO.out.lt k hk).1)
    clear hown5 hgrow5
    go_wp2_with fail
    go_ret
    exact ⟨_, rfl, Pts.of_own HO5.out, HB5.out⟩

end Go.Proofs.YtagkgejdammflaaGreat

namespace Go.Proofs.YtagkgejdammflaaGreat
open Go.RowKit Fl
set_option maxRecDepth 100000

theorem Tryz.info80n : (Tryz.prog.info? 88).map (fun i => (i.zero, i.size, i.bytes)) = some (some (.agg #[.int .i64 0, .int .i64 0, .int .i64 0]), 3, 24) := by kernel_rfl
theorem Tryz.info45n : (Tryz.prog.info? 42).map (fun i => (i.zero, i.size, i.bytes)) = some (some (.slice none 0 0), 1, 24) := by kernel_rfl

theorem scells_len (xs : List (Int × Int × Int)) : (scells xs).length = xs.length * 3 := by
  induction xs with
  | nil => rfl
  | cons a r ih => simp [scells] at ih ⊢; omega
theorem Secs.of_own {w : World} {B n : Nat} {t : TypeId} {v : Value} {xs : List (Int × Int × Int)} (h : w.ownsRow B t 3 v n (scells xs)) : Secs w w.heap.size v xs := by
  have hn : xs.length = n := by have := h.1; rw [scells_len] at this; omega
  subst hn
  rcases h.2 with ⟨rfl, h0⟩ | ⟨g, cap, cur, hv, _, hh, hcap, _⟩
  · exact ⟨none, 0, by rw [h0], fun hp => by omega⟩
  · subst hv
    refine ⟨_, _, rfl, fun _ => ⟨g, 0, rfl, heap_lt hh, fun j hj => ?_⟩⟩
    obtain ⟨a, b, c⟩ := scells_get xs j hj
    rw [Nat.zero_add]
    exact ⟨by rw [h.cellAt _ (by omega)]; exact a, by rw [h.cellAt _ (by omega)]; exact b, by rw [h.cellAt _ (by omega)]; exact c⟩

theorem clone38 (w : World) (D : Nat) (v : Value) (xs : List Int) (h : Rd w D v (ivals xs)) (hl : xs.length ≤ 100000) : Calls Tryz.prog 33 #[v] w (RetOwn w.heap.size xs w) := by
  obtain ⟨A, c, rfl, -, hx⟩ := h
  have hvl : (ivals xs).length = xs.length := by simp [ivals]
  rw [hvl] at hx ⊢
  rcases Nat.eq_zero_or_pos xs.length with h0 | h0
  · have hn : xs = [] := List.length_eq_zero_iff.1 h0
    subst hn
    cases A with
    | none =>
      refine (Tryz.slices_Clone_int_nil 0 c w).mono ?_
      rintro e w' ⟨rfl, rfl⟩
      exact ⟨_, rfl, World.ownsRow_nil _ _ _ _, Below.refl _ _⟩
    | some ad =>
      refine (Tryz.slices_Clone_int_zero ad c w).mono ?_
      rintro e w' ⟨v', rfl, ho, _, hb⟩
      exact ⟨_, rfl, ho, hb⟩
  · obtain ⟨b, o, rfl, _, hc⟩ := hx h0
    refine (Tryz.slices_Clone_int b o xs.length c xs w (Nat.le_refl _) (by omega) (ints_at' hc)).mono ?_
    rintro e w' ⟨v', rfl, ho, _, hb⟩
    rw [List.take_length] at ho
    exact ⟨_, rfl, ho, hb⟩

def RetGr (L : Lay) (w : World) (e : Ending) (w' : World) : Prop := ∃ v, e = .returned v ∧ IsGr w' w'.heap.size v L ∧ Below w.heap.size w w'

set_option maxHeartbeats 8000000 in
theorem new_any (w : World) (v : Value) (L : Lay) (h : LayV w w.heap.size v L) (hL : Fits L) : Calls Tryz.prog 22 #[v] w (RetGr L w) := by
  obtain ⟨vN, vS, vP, vQ, vR, ps, rfl, hd⟩ := h
  obtain ⟨A1, c1, hv1, -⟩ := id hd.s
  obtain ⟨A3, c3, hv3, -⟩ := id hd.q
  obtain ⟨vs, ⟨A2, c2, hv2, hvx, hvc⟩, hvl, hve⟩ := id hd.p
  subst hv1 hv3 hv2
  obtain ⟨A0, c0, hv0, -⟩ := id hd.n
  subst hv0
  obtain ⟨vs4, ⟨A4, c4, hv4, -, -⟩, -, -⟩ := id hd.r
  subst hv4
  have hs := hL.s; have hq := hL.q; have hp := hL.p; have hr := hL.r
  have HPR := Lib.hid hr
  have HVC := Lib.hid hvc
  clear hr hvx hvc
  obtain ⟨t0, ht0⟩ : ∃ t, L.speed = t := ⟨_, rfl⟩
  obtain ⟨t1, ht1⟩ : ∃ t, L.mute = t := ⟨_, rfl⟩
  obtain ⟨t2, ht2⟩ : ∃ t, L.wait = t := ⟨_, rfl⟩
  obtain ⟨t3, ht3⟩ : ∃ t, L.cancel = t := ⟨_, rfl⟩
  obtain ⟨t4, ht4⟩ : ∃ t, L.stay = t := ⟨_, rfl⟩
  rw [ht0, ht1, ht2, ht3, ht4]
  clear ht0 ht1 ht2 ht3 ht4
  have HDS := Lib.hid hd.s; have HDQ := Lib.hid hd.q
  have HVE := Lib.hid hve
  have HDP := Lib.hid hd.p
  have hvl2 : vs.length = L.parts.length := hvl
  clear hd hve hvl
  generalize (nvals ps).length = k0
  generalize vs4.length = k4
  obtain ⟨m1, hm1⟩ : ∃ m, L.secs.length = m := ⟨_, rfl⟩
  obtain ⟨m2, hm2⟩ : ∃ m, vs.length = m := ⟨_, rfl⟩
  obtain ⟨k3, hk3⟩ : ∃ m, L.points.length = m := ⟨_, rfl⟩
  have HM1 := Lib.hid hm1; have HM2 := Lib.hid hm2; have HK3 := Lib.hid hk3; have HVL := Lib.hid hvl2
  rw [hm2] at hvl2
  rw [hm1] at HDS hs; rw [hk3] at HDQ hq; rw [hm2] at HDP
  rw [hm1, hm2, hk3]
  have hp2 : m2 ≤ 100 := by omega
  clear hm1 hm2 hk3 hvl2 hp
  have hb0 := (Below.refl w.heap.size w).alloc (Nat.le_refl _) (.cells #[.slice A0 k0 c0, .slice A1 m1 c1, .slice A2 m2 c2, .slice A3 k3 c3, .slice A4 k4 c4, .int .i64 t0, .int .i64 t1, .int .i64 t2, .int .i64 t3, .int .i64 t4] 33)
  have HB0 := Lib.hid hb0
  have HRL := Lib.hid (Row.new w 33 #[.slice A0 k0 c0, .slice A1 m1 c1, .slice A2 m2 c2, .slice A3 k3 c3, .slice A4 k4 c4, .int .i64 t0, .int .i64 t1, .int .i64 t2, .int .i64 t3, .int .i64 t4])
  have HQ0 : Hid (Pts (w.alloc (.cells #[.slice A0 k0 c0, .slice A1 m1 c1, .slice A2 m2 c2, .slice A3 k3 c3, .slice A4 k4 c4, .int .i64 t0, .int .i64 t1, .int .i64 t2, .int .i64 t3, .int .i64 t4] 33)) w.heap.size (.slice A3 k3 c3) L.points) := HDQ.out.mono (Nat.le_refl _) (fun p hp => hb0.cell (p := p) hp)
  clear hb0
  obtain ⟨i8, hi8, hz80, hz81, hz82⟩ := info_parts Tryz.info80n
  obtain ⟨i6, hi6, hz60, hz61, hz62⟩ := info_parts Tryz.info45n
  go_enter Tryz.func22, Tryz.ntmps22
  go_upto_region 1 with (fail)
  obtain ⟨n0, hn0⟩ : ∃ n, n = w.heap.size := ⟨_, rfl⟩
  rw [← hn0] at HRL HB0 HQ0 ⊢
  have HN0 := Lib.hid hn0
  clear hn0
  generalize w.alloc (.cells #[.slice A0 k0 c0, .slice A1 m1 c1, .slice A2 m2 c2, .slice A3 k3 c3, .slice A4 k4 c4, .int .i64 t0, .int .i64 t1, .int .i64 t2, .int .i64 t3, .int .i64 t4] 33) = W0 at *
  have f3 := HRL.out.cell 3
  simp only [List.getElem?_toArray, List.getElem?_cons_zero, List.getElem?_cons_succ] at f3
  go_wp2_with fail
  refine (clone37 W0 n0 _ L.points HQ0.out (by have := HK3.out; omega)).mono ?_; rintro e w1 ⟨vq, rfl, hpq, hb1⟩
  obtain ⟨Aq, cq, hvq, hpx⟩ := id hpq
  subst hvq
  rw [HK3.out] at hpq ⊢
  have HB1 : Hid (Below n0 w w1) := HB0.out.trans (hb1.mono (by have := HRL.out.lt; omega))
  have HR1 := Lib.hid (Below.row hb1 HRL.out HRL.out.lt)
  have HPQ := Lib.hid hpq
  clear hpq hb1 f3 hpx HB0 HRL HQ0
  have hb2 := (Below.refl w1.heap.size w1).alloc (Nat.le_refl _) (.cells #[.slice none 0 0, .slice Aq k3 cq, .slice none 0 0] 86)
  have HB2 : Hid (Below n0 w (w1.alloc (.cells #[.slice none 0 0, .slice Aq k3 cq, .slice none 0 0] 86))) := HB1.out.trans (hb2.mono (by have := HR1.out.lt; omega))
  have HR2 := Lib.hid (HR1.out.alloc (.cells #[.slice none 0 0, .slice Aq k3 cq, .slice none 0 0] 86))
  have HG2 := Lib.hid (Row.new w1 86 #[.slice none 0 0, .slice Aq k3 cq, .slice none 0 0])
  have HPQ2 : Hid (Pts (w1.alloc (.cells #[.slice none 0 0, .slice Aq k3 cq, .slice none 0 0] 86)) w1.heap.size (.slice Aq k3 cq) L.points) := HPQ.out.mono (Nat.le_refl _) (fun p hp => hb2.cell (p := p) hp)
  have HNG : Hid (n0 < w1.heap.size) := by show _ < _; exact HR1.out.lt
  clear hb2 HR1 HPQ HB1
  go_upto_region 2 with (fail)
  obtain ⟨g, hg⟩ : ∃ n, n = w1.heap.size := ⟨_, rfl⟩
  rw [← hg] at HG2 HPQ2 HNG ⊢
  clear hg
  generalize w1.alloc (.cells #[.slice none 0 0, .slice Aq k3 cq, .slice none 0 0] 86) = W2 at *
  have f1 := HR2.out.cell 1
  simp only [List.getElem?_toArray, List.getElem?_cons_zero, List.getElem?_cons_succ] at f1
  go_wp2_with fail
  clear f1
  have HCW : Hid (∀ (wr : World), KeptL [g] W2 wr → ∀ p : Addr, p.block < n0 → wr.cell? p = w.cell? p) := fun wr hk p hp => by
    have e1 : wr.heap[p.block]? = W2.heap[p.block]? := hk.block p.block (by have := HR2.out.lt; omega) (by have := HNG.out; simp; omega)
    have e2 := HB2.out.block p.block hp
    simp only [World.cell?, e1, e2]
  go_loopw [16] (fun k wr => ∃ i : Nat, i ≤ m1 ∧ k = .int .i64 i ∧ Hid (∃ v1, Row wr g 86 #[v1, .slice Aq k3 cq, .slice none 0 0] ∧ wr.ownsRow W2.heap.size 88 3 v1 i (scells (L.secs.take i)) ∧ KeptL [g] W2 wr)) (fun k _ => m1 - (intOf k).toNat)
  case atStart => exact ⟨0, Nat.zero_le _, rfl, .slice none 0 0, HG2.out, World.ownsRow_nil _ _ _ _, KeptL.refl _ _⟩
  case round =>
    obtain ⟨i, hi, rfl, HJ⟩ := hrel
    obtain ⟨v1, hrow, hown, hkp⟩ := HJ.out
    obtain ⟨Av, cv, hv⟩ := own_slice hown
    subst hv
    have HRO := Lib.hid hrow; have HOW := Lib.hid hown; have HKP := Lib.hid hkp
    clear hrow hown hkp HJ
    by_cases hlt : i < m1
    · have hil : i < L.secs.length := by have := HM1.out; omega
      obtain ⟨b, o, hA, hb, q0, q1, q2⟩ := HDS.out.at i hil
      subst hA
      have e0 := (HCW.out wr HKP.out ⟨b, o + i * 3, none⟩ (by have := HN0.out; show b < n0; omega)).trans q0
      have e1 := (HCW.out wr HKP.out ⟨b, o + i * 3 + 1, none⟩ (by have := HN0.out; show b < n0; omega)).trans q1
      have e2 := (HCW.out wr HKP.out ⟨b, o + i * 3 + 2, none⟩ (by have := HN0.out; show b < n0; omega)).trans q2
      have HSN : Hid (scells (L.secs.take i) ++ [.int .i64 L.secs[i].1, .int .i64 L.secs[i].2.1, .int .i64 L.secs[i].2.2] = scells (L.secs.take (i + 1))) := by
        show _ = _
        rw [scells_snoc, ← List.take_succ_eq_append_getElem hil]
      clear q0 q1 q2
      generalize L.secs[i] = z at *
      obtain ⟨z0, z1, z2⟩ := z
      simp only at e0 e1 e2 HSN
      have HS3 := Lib.hid (Row.new wr 39 #[.int .i64 z0, .int .i64 z1, .int .i64 z2])
      have HR3 := Lib.hid (HRO.out.alloc (.cells #[.int .i64 z0, .int .i64 z1, .int .i64 z2] 39))
      have HO3 := Lib.hid (HOW.out.alloc (.cells #[.int .i64 z0, .int .i64 z1, .int .i64 z2] 39))
      have HK3' := Lib.hid (HKP.out.alloc (.cells #[.int .i64 z0, .int .i64 z1, .int .i64 z2] 39))
      clear HRO HOW HKP
      go_upto_region 5 with (fail)
      obtain ⟨a3, ha3⟩ : ∃ n, n = wr.heap.size := ⟨_, rfl⟩
      rw [← ha3] at HS3 ⊢
      clear ha3 e0 e1 e2
      generalize wr.alloc (.cells #[.int .i64 z0, .int .i64 z1, .int .i64 z2] 39) = wA at *
      have d1 := HR3.out.cell 0; have d2 := HS3.out.cell 0; have d3 := HS3.out.cell 1; have d4 := HS3.out.cell 2
      simp only [List.getElem?_toArray, List.getElem?_cons_zero, List.getElem?_cons_succ] at d1 d2 d3 d4
      refine AnyBut.region (fun w' => w'.cell? ⟨g, 0, none⟩ = some (.slice Av i cv) ∧ w'.cell? ⟨a3, 0, none⟩ = some (.int .i64 z0) ∧ w'.cell? ⟨a3, 1, none⟩ = some (.int .i64 z1) ∧ w'.cell? ⟨a3, 2, none⟩ = some (.int .i64 z2)) 17 (by kernel_rfl) ?_
      refine AnyBut.take 0 rfl (by kernel_rfl) (by kernel_rfl) (by kernel_rfl) (by kernel_rfl) (by decide) (fun _ _ _ h => h) (yields_of (by rfl) (fun w9 hS => (by obtain ⟨s1, s2, s3, s4⟩ := hS; go_simp; try rfl))) ⟨d1, d2, d3, d4⟩ ?_
      refine AnyBut.take 1 rfl (by kernel_rfl) (by kernel_rfl) (by kernel_rfl) (by kernel_rfl) (by decide) (fun _ _ _ h => h) (yields_of (by rfl) (fun w9 hS => (by obtain ⟨s1, s2, s3, s4⟩ := hS; go_simp; try rfl))) ⟨d1, d2, d3, d4⟩ ?_
      refine AnyBut.take 2 rfl (by kernel_rfl) (by kernel_rfl) (by kernel_rfl) (by kernel_rfl) (by decide) (fun _ _ _ h => h) (yields_of (by rfl) (fun w9 hS => (by obtain ⟨s1, s2, s3, s4⟩ := hS; go_simp; try rfl))) ⟨d1, d2, d3, d4⟩ ?_
      refine AnyBut.take 3 rfl (by kernel_rfl) (by kernel_rfl) (by kernel_rfl) (by kernel_rfl) (by decide) (fun _ _ _ h => h) (yields_of (by rfl) (fun w9 hS => (by obtain ⟨s1, s2, s3, s4⟩ := hS; go_simp; try rfl))) ⟨d1, d2, d3, d4⟩ ?_
      refine AnyBut.take 4 rfl (by kernel_rfl) (by kernel_rfl) (by kernel_rfl) (by kernel_rfl) (by decide) (fun _ _ _ h => h) (yields_of (by rfl) (fun w9 hS => (by obtain ⟨s1, s2, s3, s4⟩ := hS; go_simp; try rfl))) ⟨d1, d2, d3, d4⟩ ?_
      refine AnyBut.take 5 rfl (by kernel_rfl) (by kernel_rfl) (by kernel_rfl) (by kernel_rfl) (by decide) (fun _ _ _ h => h) (yields_of (by rfl) (fun w9 hS => (by obtain ⟨s1, s2, s3, s4⟩ := hS; go_simp; try rfl))) ⟨d1, d2, d3, d4⟩ ?_
      refine AnyBut.take 6 rfl (by kernel_rfl) (by kernel_rfl) (by kernel_rfl) (by kernel_rfl) (by decide) (fun _ _ _ h => h) (yields_of (by rfl) (fun w9 hS => (by obtain ⟨s1, s2, s3, s4⟩ := hS; go_simp; try rfl))) ⟨d1, d2, d3, d4⟩ ?_
      refine AnyBut.take 7 rfl (by kernel_rfl) (by kernel_rfl) (by kernel_rfl) (by kernel_rfl) (by decide) (fun _ _ _ h => h) (yields_of (by rfl) (fun w9 hS => (by obtain ⟨s1, s2, s3, s4⟩ := hS; go_simp; try rfl))) ⟨d1, d2, d3, d4⟩ ?_
      refine AnyBut.take 8 rfl (by kernel_rfl) (by kernel_rfl) (by kernel_rfl) (by kernel_rfl) (by decide) (fun _ _ _ h => h) (yields_of (by rfl) (fun w9 hS => (by obtain ⟨s1, s2, s3, s4⟩ := hS; go_simp; try rfl))) ⟨d1, d2, d3, d4⟩ ?_
      refine AnyBut.take 9 rfl (by kernel_rfl) (by kernel_rfl) (by kernel_rfl) (by kernel_rfl) (by decide) (fun _ _ _ h => h) (yields_of (by rfl) (fun w9 hS => (by obtain ⟨s1, s2, s3, s4⟩ := hS; go_simp; try rfl))) ⟨d1, d2, d3, d4⟩ ?_
      refine AnyBut.take 10 rfl (by kernel_rfl) (by kernel_rfl) (by kernel_rfl) (by kernel_rfl) (by decide) (fun _ _ _ h => h) (yields_of (by rfl) (fun w9 hS => (by obtain ⟨s1, s2, s3, s4⟩ := hS; go_simp; try rfl))) ⟨d1, d2, d3, d4⟩ ?_
      refine AnyBut.take 11 rfl (by kernel_rfl) (by kernel_rfl) (by kernel_rfl) (by kernel_rfl) (by decide) (fun _ _ _ h => h) (yields_of (by rfl) (fun w9 hS => (by obtain ⟨s1, s2, s3, s4⟩ := hS; go_simp; try rfl))) ⟨d1, d2, d3, d4⟩ ?_
      refine AnyBut.take 12 rfl (by kernel_rfl) (by kernel_rfl) (by kernel_rfl) (by kernel_rfl) (by decide) (fun _ _ _ h => h) (yields_of (by rfl) (fun w9 hS => (by obtain ⟨s1, s2, s3, s4⟩ := hS; go_simp; try rfl))) ⟨d1, d2, d3, d4⟩ ?_
      refine AnyBut.one 13 rfl (by kernel_rfl) (by rfl) ?_
      go_simp
      refine ⟨⟨cell_alloc d1, cell_alloc d2, cell_alloc d3, cell_alloc d4⟩, ?_⟩
      have HRB : Hid (Row ((wA.alloc (.cells #[.int .i64 z0, .int .i64 z1, .int .i64 z2] 88)).drew) g 86 #[.slice Av i cv, .slice Aq k3 cq, .slice none 0 0]) := HR3.out.alloc _
      have HSB : Hid (Row ((wA.alloc (.cells #[.int .i64 z0, .int .i64 z1, .int .i64 z2] 88)).drew) a3 39 #[.int .i64 z0, .int .i64 z1, .int .i64 z2]) := HS3.out.alloc _
      have HOB : Hid (((wA.alloc (.cells #[.int .i64 z0, .int .i64 z1, .int .i64 z2] 88)).drew).ownsRow W2.heap.size 88 3 (.slice Av i cv) i (scells (L.secs.take i))) := HO3.out.alloc _
      have HKB : Hid (KeptL [g] W2 ((wA.alloc (.cells #[.int .i64 z0, .int .i64 z1, .int .i64 z2] 88)).drew)) := by
        have h := HK3'.out.alloc (.cells #[.int .i64 z0, .int .i64 z1, .int .i64 z2] 88)
        exact ⟨h.os, h.tape, h.output, h.size, h.block⟩
      have HNB : Hid (∀ (j : Nat) (u : Value), [.int .i64 z0, .int .i64 z1, .int .i64 z2][j]? = some u → ((wA.alloc (.cells #[.int .i64 z0, .int .i64 z1, .int .i64 z2] 88)).drew).cell? ((⟨wA.heap.size, 0, none⟩ : Addr).add j) = some u) := row_new wA 88 [.int .i64 z0, .int .i64 z1, .int .i64 z2]
      generalize (wA.alloc (.cells #[.int .i64 z0, .int .i64 z1, .int .i64 z2] 88)).drew = wB at *
      generalize wA.heap.size = gA at *
      clear d1 d2 d3 d4 HR3 HS3 HO3 HK3'
      refine AnyBut.one 14 rfl (by kernel_rfl) (by rfl) ?_
      refine wp_append_lies wB (.tmp 24) (.tmp 33) 84 rfl W2.heap.size 88 i8 (.agg #[.int .i64 0, .int .i64 0, .int .i64 0]) 3 24 Tryz.underlying84 hi8 hz80 hz81 hz82 rfl (by decide) (.slice Av i cv) i _ (by rfl) HOB.out ⟨gA, 0, none⟩ 1 1 [.int .i64 z0, .int .i64 z1, .int .i64 z2] (by rfl) rfl HNB.out (by intro u hu; simp at hu; rcases hu with rfl | rfl | rfl <;> rfl) (by decide) (by unfold maxLen; omega) (by omega) HKB.out.size wB.heap.size rfl ?_
      intro g5 c5 w5 hown5 hgrow5 _ _
      rw [HSN.out] at hown5
      have hgb : g < W2.heap.size := HG2.out.lt
      have hrb : ∀ k, (Value.slice Av i cv).ownBlock = some k → W2.heap.size ≤ k := fun k hk => (HOB.out.lt k hk).1
      have rw5 := HRB.out.grown hgrow5 (fun e => by have := hrb g e.symm; omega)
      have rs5 := HSB.out.grown hgrow5 (own_ne HOB.out HSB.out (by decide))
      have kp5 : KeptL [g] W2 w5 := HKB.out.grown hgrow5 hrb
      have u1 := rw5.cell 0; have u2 := rs5.cell 0; have u3 := rs5.cell 1; have u4 := rs5.cell 2; have z9 := rw5.frozen 0
      simp only [List.getElem?_toArray, List.getElem?_cons_zero, List.getElem?_cons_succ] at u1 u2 u3 u4
      refine ⟨fun _ => ⟨u1, u2, u3, u4⟩, ?_⟩
      have HNX : Hid (∃ v1, Row (w5.setCell ⟨g, 0, none⟩ (.slice (some ⟨g5, 0, none⟩) (i + 1) c5)) g 86 #[v1, .slice Aq k3 cq, .slice none 0 0] ∧ (w5.setCell ⟨g, 0, none⟩ (.slice (some ⟨g5, 0, none⟩) (i + 1) c5)).ownsRow W2.heap.size 88 3 v1 (i + 1) (scells (L.secs.take (i + 1))) ∧ KeptL [g] W2 (w5.setCell ⟨g, 0, none⟩ (.slice (some ⟨g5, 0, none⟩) (i + 1) c5))) :=
        ⟨_, rw5.set 0 _, own_far (a := ⟨g, 0, none⟩) hown5 (fun e => by have h1 := (hown5.lt g e).1; omega) _, kp5.set (by simp) _⟩
      clear hown5 hgrow5 hrb rw5 rs5 kp5
      refine AnyBut.one 15 rfl (by kernel_rfl) (by rfl) ?_
      go_simp
      refine AnyBut.one 16 rfl (by kernel_rfl) (by rfl) ?_
      go_simp
      refine AnyBut.one 17 rfl (by kernel_rfl) (by rfl) ?_
      go_simp
      refine AnyBut.done (by kernel_rfl) ?_
      clear u1 u2 u3 u4 z9
      go_wp2_with fail
      go_roundw
      case rel => exact ⟨i + 1, by omega, by go_num, HNX⟩
      case measure => simp [intOf]; omega
    · obtain ⟨P, hP⟩ : ∃ x, x = wr := ⟨_, rfl⟩
      subst hP
      have HIE : Hid (i = m1) := by show _ = _; omega
      have rl := HKP.out.row HR2.out (by have := HNG.out; simp; omega)
      have f2 := rl.cell 2
      simp only [List.getElem?_toArray, List.getElem?_cons_zero, List.getElem?_cons_succ] at f2
      clear rl
      have HGP : Hid (g < P.heap.size) := HRO.out.lt
      go_wp2_with fail
      clear f2
      go_loopw [41] (fun k wr => ∃ j : Nat, j ≤ m2 ∧ k = .int .i64 j ∧ Hid (∃ v2, Row wr g 86 #[.slice Av i cv, .slice Aq k3 cq, v2] ∧ OwnRows wr P.heap.size v2 (L.parts.take j) ∧ KeptL [g] P wr)) (fun k _ => m2 - (intOf k).toNat)
      case atStart => exact ⟨0, Nat.zero_le _, rfl, .slice none 0 0, HRO.out, OwnRows.nil _ _, KeptL.refl _ _⟩
      case round =>
        obtain ⟨j, hj, rfl, HJ⟩ := hrel
        obtain ⟨v2, hrow, ⟨us, hor⟩, hkp⟩ := HJ.out
        obtain ⟨A5, c5, hv5⟩ := own_slice hor.own
        subst hv5
        have HRJ := Lib.hid hrow; have HOJ := Lib.hid hor; have HKJ := Lib.hid hkp
        clear hrow hor hkp HJ
        by_cases hlt2 : j < m2
        · have hjv : j < vs.length := by have := HM2.out; omega
          have hjp : j < L.parts.length := by have := HVL.out; omega
          obtain ⟨b, o, hA, hb, hc⟩ := HVC.out (by omega)
          subst hA
          have HKW : Hid (KeptL [g] W2 wr) := HKP.out.trans HKJ.out
          have e0 : wr.cell? ⟨b, o + j, none⟩ = some vs[j] := (HCW.out wr HKW.out ⟨b, o + j, none⟩ (by have := HN0.out; show b < n0; omega)).trans (hc j _ (List.getElem?_eq_getElem hjv))
          have he := HVE.out j hjv hjp
          have hrl := HPR.out L.parts[j] (List.getElem_mem _)
          have HNXT : Hid (L.parts.take j ++ [L.parts[j]] = L.parts.take (j + 1)) := (List.take_succ_eq_append_getElem hjp).symm
          have hul : us.length ≤ 100 := by have h1 := HOJ.out.len; simp at h1; have := HVL.out; have := HM2.out; omega
          clear hc
          generalize vs[j] = z at *
          generalize L.parts[j] = r at *
          have HEZ : Hid (∀ (X : World), (∀ p : Addr, p.block < n0 → X.cell? p = w.cell? p) → Rd X n0 z (ivals r)) := fun X hX => by have h1 := HN0.out; rw [← h1] at he; exact he.mono (Nat.le_refl _) hX
          obtain ⟨B, cc, hz, -, -⟩ := id he
          subst hz
          clear he
          go_upto_region 10 with (fail)
          clear e0
          have d1 := HRJ.out.cell 2
          simp only [List.getElem?_toArray, List.getElem?_cons_zero, List.getElem?_cons_succ] at d1
          refine AnyBut.region (fun w' => w'.cell? ⟨g, 2, none⟩ = some (.slice A5 us.length c5)) 11 (by kernel_rfl) ?_
          refine AnyBut.take 0 rfl (by kernel_rfl) (by kernel_rfl) (by kernel_rfl) (by kernel_rfl) (by decide) (fun _ _ _ h => h) (yields_of (by rfl) (fun w9 hS => (by have s1 := hS; go_simp; try rfl))) d1 ?_
          refine AnyBut.take 1 rfl (by kernel_rfl) (by kernel_rfl) (by kernel_rfl) (by kernel_rfl) (by decide) (fun _ _ _ h => h) (yields_of (by rfl) (fun w9 hS => (by have s1 := hS; go_simp; try rfl))) d1 ?_
          refine AnyBut.take 2 rfl (by kernel_rfl) (by kernel_rfl) (by kernel_rfl) (by kernel_rfl) (by decide) (fun _ _ _ h => h) (yields_of (by rfl) (fun w9 hS => (by have s1 := hS; go_simp; try rfl))) d1 ?_
          refine AnyBut.take 3 rfl (by kernel_rfl) (by kernel_rfl) (by kernel_rfl) (by kernel_rfl) (by decide) (fun _ _ _ h => h) (yields_of (by rfl) (fun w9 hS => (by have s1 := hS; go_simp; try rfl))) d1 ?_
          refine AnyBut.take 4 rfl (by kernel_rfl) (by kernel_rfl) (by kernel_rfl) (by kernel_rfl) (by decide) (fun _ _ _ h => h) (yields_of (by rfl) (fun w9 hS => (by have s1 := hS; go_simp; try rfl))) d1 ?_
          refine AnyBut.take 5 rfl (by kernel_rfl) (by kernel_rfl) (by kernel_rfl) (by kernel_rfl) (by decide) (fun _ _ _ h => h) (yields_of (by rfl) (fun w9 hS => (by have s1 := hS; go_simp; try rfl))) d1 ?_
          refine AnyBut.one 6 rfl (by kernel_rfl) (by rfl) ?_
          go_simp
          have HRD : Hid (Row wr.drew g 86 #[.slice Av i cv, .slice Aq k3 cq, .slice A5 us.length c5]) := HRJ.out
          refine (clone38 wr.drew n0 _ r (HEZ.out _ (fun p hp => HCW.out wr HKW.out p hp)) (by omega)).mono ?_; rintro e w1 ⟨v7, rfl, ho7, hb7⟩
          obtain ⟨A7, c7, hv7⟩ := own_slice ho7
          subst hv7
          have HR7 := Lib.hid (Below.row hb7 HRD.out HRD.out.lt)
          have HO7 : Hid (ORows w1 P.heap.size (.slice A5 us.length c5) us (L.parts.take j)) := HOJ.out.drew.grown (grown_below hb7 none) (fun k hk => by cases hk)
          have HK7 : Hid (KeptL [g] P w1) := by
            have h1 : KeptL [g] P wr.drew := ⟨HKJ.out.os, HKJ.out.tape, HKJ.out.output, HKJ.out.size, HKJ.out.block⟩
            exact h1.trans (KeptL.of_below hb7)
          have HU7 : Hid (w1.ownsRow P.heap.size 3 1 (.slice A7 r.length c7) r.length (ivals r)) := own_base ho7 HKJ.out.size
          have HF7 : Hid (∀ k, (Value.slice A7 r.length c7).ownBlock = some k → ∀ q (h1 : q < us.length), us[q].ownBlock ≠ some k) := fun k hk q hq e => by
            have h1 := (ho7.lt k hk).1
            have h2 := ((HOJ.out.row q hq (by rw [← HOJ.out.len]; exact hq)).lt k e).2
            have h3 : wr.drew.heap.size = wr.heap.size := rfl
            omega
          have u1 := HR7.out.cell 2
          simp only [List.getElem?_toArray, List.getElem?_cons_zero, List.getElem?_cons_succ] at u1
          clear ho7 hb7 d1 HRD
          refine ⟨u1, ?_⟩
          refine AnyBut.one 7 rfl (by kernel_rfl) (by rfl) ?_
          go_simp
          refine ⟨cell_alloc u1, ?_⟩
          have HR8 := Lib.hid (HR7.out.alloc (.cells #[.slice A7 r.length c7] 42))
          have HO8 := Lib.hid (HO7.out.alloc (.cells #[.slice A7 r.length c7] 42))
          have HU8 := Lib.hid (HU7.out.alloc (.cells #[.slice A7 r.length c7] 42))
          have HK8 := Lib.hid (HK7.out.alloc (.cells #[.slice A7 r.length c7] 42))
          have HN8 : Hid (∀ (j : Nat) (u : Value), [.slice A7 r.length c7][j]? = some u → (w1.alloc (.cells #[.slice A7 r.length c7] 42)).cell? ((⟨w1.heap.size, 0, none⟩ : Addr).add j) = some u) := row_new w1 42 [.slice A7 r.length c7]
          generalize w1.alloc (.cells #[.slice A7 r.length c7] 42) = wB at *
          generalize w1.heap.size = gA at *
          clear u1 HR7 HO7 HU7 HK7
          refine AnyBut.one 8 rfl (by kernel_rfl) (by rfl) ?_
          refine wp_append_lies wB (.tmp 49) (.tmp 52) 30 rfl P.heap.size 42 i6 (.slice none 0 0) 1 24 Tryz.underlying30 hi6 hz60 hz61 hz62 rfl (by decide) (.slice A5 us.length c5) us.length _ (by rfl) HO8.out.own ⟨gA, 0, none⟩ 1 1 [.slice A7 r.length c7] (by rfl) rfl HN8.out (by intro u hu; simp at hu; subst hu; rfl) (by decide) (by unfold maxLen; omega) (by omega) HK8.out.size wB.heap.size rfl ?_
          intro g5 c9 w5 hown5 hgrow5 _ _
          have hgb : g < P.heap.size := HGP.out
          have hrb : ∀ k, (Value.slice A5 us.length c5).ownBlock = some k → P.heap.size ≤ k := fun k hk => (HO8.out.own.lt k hk).1
          have rw5 := HR8.out.grown hgrow5 (fun e => by have := hrb g e.symm; omega)
          have kp5 : KeptL [g] P w5 := HK8.out.grown hgrow5 hrb
          have hpush := HO8.out.push HU8.out HF7.out hown5 hgrow5
          have u1 := rw5.cell 2; have z9 := rw5.frozen 2
          simp only [List.getElem?_toArray, List.getElem?_cons_zero, List.getElem?_cons_succ] at u1
          refine ⟨fun _ => u1, ?_⟩
          have HNX : Hid (∃ v2, Row (w5.setCell ⟨g, 2, none⟩ (.slice (some ⟨g5, 0, none⟩) (us.length + 1) c9)) g 86 #[.slice Av i cv, .slice Aq k3 cq, v2] ∧ OwnRows (w5.setCell ⟨g, 2, none⟩ (.slice (some ⟨g5, 0, none⟩) (us.length + 1) c9)) P.heap.size v2 (L.parts.take (j + 1)) ∧ KeptL [g] P (w5.setCell ⟨g, 2, none⟩ (.slice (some ⟨g5, 0, none⟩) (us.length + 1) c9))) :=
            ⟨_, rw5.set 2 _, ⟨_, by rw [← HNXT.out]; exact hpush.set (a := ⟨g, 2, none⟩) hgb _⟩, kp5.set (by simp) _⟩
          clear hown5 hgrow5 hrb rw5 kp5 hpush
          refine AnyBut.one 9 rfl (by kernel_rfl) (by rfl) ?_
          go_simp
          refine AnyBut.one 10 rfl (by kernel_rfl) (by rfl) ?_
          go_simp
          refine AnyBut.one 11 rfl (by kernel_rfl) (by rfl) ?_
          go_simp
          refine AnyBut.done (by kernel_rfl) ?_
          clear u1 z9
          go_wp2_with fail
          go_roundw
          case rel => exact ⟨j + 1, by omega, by go_num, HNX⟩
          case measure => simp [intOf]; omega
        · have HJE : Hid (j = m2) := by show _ = _; omega
          go_wp2_with fail
          go_ret
          have kW : KeptL [g] W2 wr := HKP.out.trans HKJ.out
          have hgw : g < W2.heap.size := HG2.out.lt
          have e1 : L.secs.take i = L.secs := List.take_of_length_le (by have h1 := HIE.out; have h2 := HM1.out; omega)
          have e2 : L.parts.take j = L.parts := List.take_of_length_le (by have h1 := HJE.out; have h2 := HM2.out; have h3 := HVL.out; omega)
          have ho := HOW.out
          rw [e1] at ho
          have ho2 : wr.ownsRow W2.heap.size 88 3 (.slice Av i cv) i (scells L.secs) := by
            refine ho.kept (row := some g) ⟨HKJ.out.os, HKJ.out.tape, HKJ.out.output, HKJ.out.size, fun k hk hn => HKJ.out.block k hk (by intro e; simp at e; subst e; exact hn rfl)⟩ ?_
            right
            intro e
            have := (ho.lt g e).1; omega
          have hpp : RowsAt wr wr.heap.size (.slice A5 us.length c5) L.parts := by
            have h1 := OwnRows.is ⟨us, HOJ.out⟩
            rw [e2] at h1
            exact h1.at
          have hqq : Pts wr wr.heap.size (.slice Aq k3 cq) L.points := HPQ2.out.mono (Nat.le_of_lt HRJ.out.lt) (fun p hp => by
            have h1 := kW.block p.block (by omega) (by simp; omega)
            simp only [World.cell?, h1])
          refine ⟨_, rfl, ⟨g, _, _, _, rfl, HRJ.out, HRJ.out.lt, Secs.of_own ho2, hqq, hpp⟩, ?_⟩
          rw [← HN0.out]
          exact HB2.out.trans (kW.below (by have := HR2.out.lt; omega) (by intro k hk; simp at hk; subst hk; have := HNG.out; omega))

end Go.Proofs.YtagkgejdammflaaGreat
