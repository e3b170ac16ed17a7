/- Contracts: through. -/
import Derived.Test.YtifcgkpannlnnaaG6
namespace Go.Proofs.Ytifcgkpannlnnaa
open Go.RowKit Fl
set_option maxRecDepth 100000

/-- The ends to which a point leads from a section, if just these sides are open. -/
def throughL (ss : List (Int × Int × Int)) (p : Int × Int × Int × Int) (f : Int) (sides : List Int) : List (Int × Int) :=
  if f = p.2.1 then sides.flatMap (fun s => oneL ss s p.1) else if sides.contains f then oneL ss p.2.1 p.1 else []

theorem oneL_le (ss : List (Int × Int × Int)) (s n : Int) : (oneL ss s n).length ≤ 1 := by unfold oneL; simp; omega
theorem ones_le (ss : List (Int × Int × Int)) (n : Int) : ∀ xs : List Int, (xs.flatMap (fun s => oneL ss s n)).length ≤ xs.length
  | [] => by simp
  | a :: r => by have := ones_le ss n r; have := oneL_le ss a n; simp only [List.flatMap_cons, List.length_append, List.length_cons]; omega

theorem ints_at' {w : World} {b o : Nat} {xs : List Int} (h : ∀ (j : Nat) (u : Value), (ivals xs)[j]? = some u → w.cell? ⟨b, o + j, none⟩ = some u) : ∀ j, j < xs.length → w.cell? ⟨b, o + j, none⟩ = some (.int .i64 (xs.getD j 0)) := by
  intro j hj
  apply h
  simp [ivals, List.getD, hj]

set_option maxHeartbeats 2000000 in
theorem through_any (w : World) (D : Nat) (v vs : Value) (L : Lay) (nd st lf rt f : Int) (xs : List Int) (h : IsGr w D v L) (hD : D ≤ w.heap.size) (hL : Fits L) (hs : Rd w w.heap.size vs (ivals xs)) (hx0 : 0 < xs.length) (hx1 : xs.length ≤ 2) :
    Calls Try.prog 74 #[v, .agg #[.int .i64 nd, .int .i64 st, .int .i64 lf, .int .i64 rt], .int .i64 f, vs] w (RetEnds (throughL L.secs (nd, st, lf, rt) f xs) w) := by
  have hb0 := (Below.refl w.heap.size w).alloc (Nat.le_refl _) (.cells #[.int .i64 nd, .int .i64 st, .int .i64 lf, .int .i64 rt] 72)
  have HI := Lib.hid (h.keep hb0 hD)
  have HB0 := Lib.hid hb0
  have HRW := Lib.hid (Row.new w 72 #[.int .i64 nd, .int .i64 st, .int .i64 lf, .int .i64 rt])
  have HSD := Lib.hid (hs.up hb0)
  obtain ⟨g, vS, vQ, vP, rfl, -⟩ := h
  obtain ⟨A, c, rfl, -, -⟩ := hs
  clear hb0
  have hvl : (ivals xs).length = xs.length := by simp [ivals]
  rw [hvl] at HSD ⊢
  have HE : Hid (throughL L.secs (nd, st, lf, rt) f xs = if f = st then xs.flatMap (fun s => oneL L.secs s nd) else if xs.contains f then oneL L.secs st nd else []) := rfl
  generalize throughL L.secs (nd, st, lf, rt) f xs = r at *
  obtain ⟨b, o, hA, -, hcc⟩ : ∃ b o, A = some ⟨b, o, none⟩ ∧ b < (w.alloc (.cells #[.int .i64 nd, .int .i64 st, .int .i64 lf, .int .i64 rt] 72)).heap.size ∧ ∀ (j : Nat) (u : Value), (ivals xs)[j]? = some u → (w.alloc (.cells #[.int .i64 nd, .int .i64 st, .int .i64 lf, .int .i64 rt] 72)).cell? ⟨b, o + j, none⟩ = some u := by
    obtain ⟨A', c', e, _, hx⟩ := HSD.out
    obtain ⟨b, o, hA, hb, hc⟩ := hx (by omega)
    injection e with e1
    exact ⟨b, o, e1.trans hA, hb, hc⟩
  subst hA
  have HC := Lib.hid (ints_at' hcc)
  have hbl : b < (w.alloc (.cells #[.int .i64 nd, .int .i64 st, .int .i64 lf, .int .i64 rt] 72)).heap.size := cell_lt (HC.out 0 hx0)
  clear hcc hvl
  have hD1 : D ≤ (w.alloc (.cells #[.int .i64 nd, .int .i64 st, .int .i64 lf, .int .i64 rt] 72)).heap.size := by simp; omega
  obtain ⟨i4, hi4, hz40, hz41, hz42⟩ := info_parts Try.info85
  go_enter Try.func74, Try.ntmps74
  go_upto_region 1 with (fail)
  obtain ⟨n0, hn0⟩ : ∃ n, n = w.heap.size := ⟨_, rfl⟩
  rw [← hn0] at HRW HB0 ⊢
  have HN0 := Lib.hid hn0
  clear hn0 hD
  generalize w.alloc (.cells #[.int .i64 nd, .int .i64 st, .int .i64 lf, .int .i64 rt] 72) = W0 at *
  have e0 := HRW.out.cell 0; have e1 := HRW.out.cell 1
  simp only [List.getElem?_toArray, List.getElem?_cons_zero, List.getElem?_cons_succ] at e0 e1
  by_cases hf : f = st
  · have HE2 : Hid (r = xs.flatMap (fun s => oneL L.secs s nd)) := by show _ = _; rw [HE.out, if_pos hf]
    clear HE
    subst hf
    go_wp2_with fail
    clear e0 e1
    go_loopw [9, 28] (fun t k wr => ∃ i : Nat, i ≤ xs.length ∧ k = .int .i64 i ∧ Hid (wr.ownsRow W0.heap.size 85 2 t ((xs.take i).flatMap (fun s => oneL L.secs s nd)).length (ecells ((xs.take i).flatMap (fun s => oneL L.secs s nd))) ∧ Below W0.heap.size W0 wr)) (fun _ k _ => xs.length - (intOf k).toNat)
    case atStart => exact ⟨0, Nat.zero_le _, rfl, World.ownsRow_nil _ _ _ _, Below.refl _ _⟩
    case round =>
      obtain ⟨i, hi, rfl, HJ⟩ := hrel
      by_cases hlt : i < xs.length
      · have HS : Hid ((xs.take (i + 1)).flatMap (fun s => oneL L.secs s nd) = (xs.take i).flatMap (fun s => oneL L.secs s nd) ++ oneL L.secs xs[i] nd) := by
          show _ = _
          rw [List.take_succ_eq_append_getElem hlt, List.flatMap_append]; simp
        have hb1 := ones_le L.secs nd (xs.take i)
        have hb2 := oneL_le L.secs xs[i] nd
        have hb3 : (xs.take i).length ≤ 2 := by simp; omega
        have ec : wr.cell? ⟨b, o + i, none⟩ = some (.int .i64 xs[i]) := by
          have h1 := HC.out i hlt
          have h2 : xs.getD i 0 = xs[i] := by simp [List.getD, hlt]
          rw [h2] at h1
          exact (HJ.out.2.cell (p := ⟨b, o + i, none⟩) hbl).trans h1
        have rr := Below.row HJ.out.2 HRW.out HRW.out.lt
        have e0 := rr.cell 0
        simp only [List.getElem?_toArray, List.getElem?_cons_zero] at e0
        clear rr
        generalize xs[i] = z at *
        go_wp2_with fail
        refine (endAt_any wr D _ L z nd (HI.out.keep HJ.out.2 hD1) hL).mono ?_; rintro e w1 ⟨v1, rfl, hp1, hb⟩
        obtain ⟨A1, c1, hv1, hp⟩ := id hp1
        subst hv1
        obtain ⟨A5, c5, hv5⟩ := own_slice HJ.out.1
        subst hv5
        have HO := Lib.hid (own_below HJ.out.1 hb)
        have HP := Lib.hid hp1
        have HB : Hid (Below W0.heap.size W0 w1) := HJ.out.2.trans (hb.mono HJ.out.2.size)
        clear hb hp1 hp e0 ec
        generalize oneL L.secs z nd = ys at *
        generalize (xs.take i).flatMap (fun s => oneL L.secs s nd) = zs at *
        go_wp2_with (at_builtin; refine wpList_app_prs rfl (.tmp 32) (.tmp 37) 86 rfl W0.heap.size 85 i4 _ Try.underlying86 hi4 hz40 hz41 hz42 rfl _ _ zs rfl HO.out _ ys rfl HP.out (by omega) HB.out.size ?_)
        intro v5 w5 hown5 hgrow5
        have HNX : Hid (w5.ownsRow W0.heap.size 85 2 v5 ((xs.take (i + 1)).flatMap (fun s => oneL L.secs s nd)).length (ecells ((xs.take (i + 1)).flatMap (fun s => oneL L.secs s nd))) ∧ Below W0.heap.size W0 w5) := by
          refine ⟨?_, HB.out.grown hgrow5 HB.out.size (fun k hk => (HO.out.lt k hk).1)⟩
          rw [HS.out, List.length_append]; exact hown5
        clear hown5 hgrow5
        go_wp2_with fail
        go_roundw
        case rel => exact ⟨i + 1, by omega, by go_num, HNX⟩
        case measure => simp [intOf]; omega
      · have HIE : Hid (i = xs.length) := by show _ = _; omega
        go_wp2_with fail
        go_ret
        have h1 := HJ.out.1
        rw [HIE.out, List.take_length] at h1
        rw [HE2.out]
        exact ⟨_, rfl, Prs.of_own h1, by rw [← HN0.out]; exact HB0.out.trans (HJ.out.2.mono (by have := HRW.out.lt; omega))⟩
  · have HE2 : Hid (r = if xs.contains f then oneL L.secs st nd else []) := by show _ = _; rw [HE.out, if_neg hf]
    clear HE
    go_wp2_with fail
    refine (Try.slices_Contains_int b o xs.length c xs f W0 (Nat.le_refl _) (by omega) HC.out).mono ?_; rintro e w' ⟨rfl, rfl⟩
    rw [List.take_length]
    cases hct : xs.contains f with
    | false =>
      have HE3 : Hid (r = []) := by show _ = _; rw [HE2.out, hct]; rfl
      clear HE2 hct
      go_wp2_with fail
      go_ret
      rw [HE3.out]
      exact ⟨_, rfl, Prs.nil _ _, by rw [← HN0.out]; exact HB0.out⟩
    | true =>
      have HE3 : Hid (r = oneL L.secs st nd) := by show _ = _; rw [HE2.out, hct]; rfl
      clear HE2 hct
      go_wp2_with fail
      refine (endAt_any _ D _ L st nd HI.out hL).mono ?_; rintro e w1 ⟨v1, rfl, hp1, hb⟩
      have HP := Lib.hid hp1
      have HB1 : Hid (Below n0 w w1) := HB0.out.trans (hb.mono (by have := HRW.out.lt; omega))
      clear hp1 hb
      go_wp2_with fail
      go_ret
      rw [HE3.out]
      exact ⟨_, rfl, HP.out, by rw [← HN0.out]; exact HB1.out⟩

end Go.Proofs.Ytifcgkpannlnnaa
