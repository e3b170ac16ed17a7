/- Contracts: has, Len, endsOf. Contracts: endsOf. Contracts: Ends; a slice of ends put behind an owned one. Contracts: node. Contracts: Point (by IndexFunc and its closure), endAt, pointAt. -/
import Derived.Test.YtagkgejdammflaaGreatGMath
import Derived.LoopN
namespace Go.Proofs.YtagkgejdammflaaGreat
open Go.RowKit Fl
set_option maxRecDepth 100000

theorem Tryz.info60 : (Tryz.prog.info? 60).map (fun i => (i.zero, i.size, i.bytes)) = some (some (.agg #[.int .i64 0, .int .i64 0]), 2, 16) := by kernel_rfl

theorem Gr.secs {w : World} {D g : Nat} {vS vQ vP : Value} {L : Lay} (h : Gr w D g vS vQ vP L) : ∃ A c, vS = .slice A L.secs.length c := by
  obtain ⟨A, c, hv, _⟩ := h.s; exact ⟨A, c, hv⟩

set_option maxHeartbeats 1000000 in
theorem has_any (w : World) (D : Nat) (v : Value) (L : Lay) (s : Int) (h : IsGr w D v L) (hL : Fits L) :
    Calls Tryz.prog 88 #[v, .int .i64 s] w fun e w' => e = .returned (.bool (hasB L.secs s)) ∧ w = w' := by
  obtain ⟨g, vS, vQ, vP, rfl, hg⟩ := h
  obtain ⟨A, c, rfl⟩ := hg.secs
  have f0 := hg.row.cell 0
  simp only [List.getElem?_toArray, List.getElem?_cons_zero] at f0
  have hs := hL.s
  have HF : Hid ((decide (0 ≤ s) && decide (s < (L.secs.length : Int))) = hasB L.secs s) := rfl
  clear hg hL
  generalize L.secs.length = n at *
  generalize hasB L.secs s = B at *
  by_cases h0 : 0 ≤ s
  · by_cases h1 : s < (n : Int)
    · have HB : Hid (true = B) := by have := HF.out; rw [decide_eq_true h0, decide_eq_true h1] at this; exact this
      clear HF
      go_enter Tryz.func88, Tryz.ntmps88
      go_wp2_with fail
      go_ret
      exact ⟨ret_bool HB.out, rfl⟩
    · have HB : Hid (false = B) := by have := HF.out; rw [decide_eq_true h0, decide_eq_false h1] at this; exact this
      clear HF
      go_enter Tryz.func88, Tryz.ntmps88
      go_wp2_with fail
      go_ret
      exact ⟨ret_bool HB.out, rfl⟩
  · have HB : Hid (false = B) := by have := HF.out; rw [decide_eq_false h0] at this; exact this
    clear HF
    go_enter Tryz.func88, Tryz.ntmps88
    go_wp2_with fail
    go_ret
    exact ⟨ret_bool HB.out, rfl⟩

theorem has_nil (w : World) (s : Int) : Calls Tryz.prog 88 #[.pointer none, .int .i64 s] w fun e w' => e = .returned (.bool false) ∧ w = w' := by
  go_enter Tryz.func88, Tryz.ntmps88
  go_wp2_with fail
  go_ret
  exact ⟨rfl, rfl⟩

theorem hasB_nat {ss : List (Int × Int × Int)} {s : Int} (h : hasB ss s = true) : ∃ i : Nat, s = (i : Int) ∧ i < ss.length := by
  unfold hasB at h
  simp at h
  exact ⟨s.toNat, by omega, by omega⟩

/-- A section's length. -/
def lenL (ss : List (Int × Int × Int)) (s : Int) : Int := if hasB ss s then (ss.getD s.toNat (0, 0, 0)).1 else 0

end Go.Proofs.YtagkgejdammflaaGreat

namespace Go.Proofs.YtagkgejdammflaaGreat
open Go.RowKit Fl
set_option maxRecDepth 100000

theorem index2_0 (x y : Int) (w : World) : Sem.run Tryz.prog (Instr.index 58 (.agg #[.int .i64 x, .int .i64 y]) (.int .i64 0)) w = .ok (.int .i64 x) w := by
  simp [Instr.index, go_sem]
theorem index2_1 (x y : Int) (w : World) : Sem.run Tryz.prog (Instr.index 58 (.agg #[.int .i64 x, .int .i64 y]) (.int .i64 1)) w = .ok (.int .i64 y) w := by
  simp [Instr.index, go_sem]

set_option maxHeartbeats 4000000 in
theorem endsOf_any (w : World) (D : Nat) (v : Value) (L : Lay) (s n : Int) (h : IsGr w D v L) (hL : Fits L) :
    Calls Tryz.prog 76 #[v, .int .i64 s, .int .i64 n] w fun e w' => ∃ v', e = .returned v' ∧ w'.ownsRow w.heap.size 60 2 v' (endsOfL L.secs s n).length (ecells (endsOfL L.secs s n)) ∧ Below w.heap.size w w' := by
  have hI := h
  obtain ⟨g, vS, vQ, vP, rfl, hg⟩ := h
  cases hb : hasB L.secs s with
  | false =>
    have HB := Lib.hid hb
    have HE : Hid (endsOfL L.secs s n = []) := by show _ = _; unfold endsOfL; rw [hb]; rfl
    generalize endsOfL L.secs s n = r at *
    have HI := Lib.hid hI
    clear hI hg hb
    go_enter Tryz.func76, Tryz.ntmps76
    go_wp2_with fail
    refine (has_any w D _ L s HI.out hL).mono ?_; rintro e w' ⟨rfl, rfl⟩
    rw [HB.out]
    go_wp2_with fail
    go_ret
    rw [HE.out]
    exact ⟨_, rfl, World.ownsRow_nil _ _ _ _, Below.refl _ _⟩
  | true =>
    obtain ⟨i, rfl, hi⟩ := hasB_nat hb
    have HB := Lib.hid hb
    have HI := Lib.hid hI
    obtain ⟨A, c, rfl⟩ := hg.secs
    have f0 := hg.row.cell 0
    simp only [List.getElem?_toArray, List.getElem?_cons_zero] at f0
    obtain ⟨b, o, rfl, -, -, c1, c2⟩ := hg.s.at i hi
    have HE : Hid (endsOfL L.secs (i : Int) n = (if L.secs[i].2.1 = n then [((i : Int), (0 : Int))] else []) ++ (if L.secs[i].2.2 = n then [((i : Int), (1 : Int))] else [])) := by
      show _ = _
      rw [endsOfL_nat _ _ _ hi]; unfold endsAt
      have hge : L.secs.getD i (0, 0, 0) = L.secs[i] := by simp [List.getD, hi]
      rw [hge]
    have hs := hL.s
    clear hI hg hb
    obtain ⟨x, hx⟩ : ∃ x, L.secs[i].2.1 = x := ⟨_, rfl⟩
    obtain ⟨y, hy⟩ : ∃ x, L.secs[i].2.2 = x := ⟨_, rfl⟩
    rw [hx] at c1 HE
    rw [hy] at c2 HE
    have HL := Lib.hid hL
    clear hL hx hy
    generalize endsOfL L.secs (i : Int) n = r at *
    generalize hm : L.secs.length = m at *
    have HM := Lib.hid hm
    clear hm
    obtain ⟨i4, hi4, hz40, hz41, hz42⟩ := info_parts Tryz.info60
    go_enter Tryz.func76, Tryz.ntmps76
    go_wp2_with fail
    refine (has_any w D _ L (i : Int) HI.out HL.out).mono ?_; rintro e w' ⟨rfl, rfl⟩
    rw [HB.out]
    go_wp2_with fail
    refine wp_loop_rounds 3 ?_
    rw [rounds_succ]
    have HO0 : Hid (w.ownsRow w.heap.size 60 2 (.slice none 0 0) 0 (ecells []) ∧ Below w.heap.size w w) := ⟨World.ownsRow_nil _ _ _ _, Below.refl _ _⟩
    obtain ⟨B0, hB0⟩ : ∃ n, n = w.heap.size := ⟨_, rfl⟩
    have hB1 : B0 ≤ w.heap.size := by omega
    rw [← hB0] at HO0
    have HB0 := Lib.hid hB0
    clear hB0
    have ix0 := index2_0 x y
    have ix1 := index2_1 x y
    by_cases h1 : x = n
    · by_cases h2 : y = n
      · have HE2 : Hid (r = [((i : Int), (0 : Int)), ((i : Int), (1 : Int))]) := by show _ = _; rw [HE.out, if_pos h1, if_pos h2]; rfl
        clear HE
        subst h1
        subst h2
        go_wp2_with (at_builtin; refine wpList_append_own _ rfl (.tmp 29) (.tmp 33) 61 rfl B0 60 i4 (.agg #[.int .i64 0, .int .i64 0]) 2 16 Tryz.underlying61 hi4 hz40 hz41 hz42 rfl (by decide) _ _ _ rfl (HO0.out.1.alloc _) ⟨w.heap.size, 0, none⟩ 1 1 [.int .i64 (i : Int), .int .i64 0] rfl rfl (row_new w 60 _) (by intro u hu; simp at hu; rcases hu with rfl | rfl <;> rfl) (by unfold maxLen; omega) (by omega) (by have := HO0.out.2.size; simp; omega) ?_)
        intro v1 W1 hown hgrow _
        have HO1 : Hid (W1.ownsRow B0 60 2 v1 1 (ecells [((i : Int), (0 : Int))]) ∧ Below B0 w W1) := ⟨hown, (HO0.out.2.alloc (by have := HO0.out.2.size; omega) _).grown hgrow (by have := HO0.out.2.size; simp; omega) (fun k hk => (HO0.out.1.lt k hk).1)⟩
        clear hown hgrow
        go_wp2_with fail
        rw [rounds_succ]
        go_wp2_with (at_builtin; refine wpList_append_own _ rfl (.tmp 29) (.tmp 33) 61 rfl B0 60 i4 (.agg #[.int .i64 0, .int .i64 0]) 2 16 Tryz.underlying61 hi4 hz40 hz41 hz42 rfl (by decide) _ _ _ rfl (HO1.out.1.alloc _) ⟨W1.heap.size, 0, none⟩ 1 1 [.int .i64 (i : Int), .int .i64 1] rfl rfl (row_new W1 60 _) (by intro u hu; simp at hu; rcases hu with rfl | rfl <;> rfl) (by unfold maxLen; omega) (by omega) (by have := HO1.out.2.size; simp; omega) ?_)
        intro v2 W2 hown hgrow _
        have HO2 : Hid (W2.ownsRow B0 60 2 v2 2 (ecells [((i : Int), (0 : Int)), ((i : Int), (1 : Int))]) ∧ Below B0 w W2) := ⟨hown, (HO1.out.2.alloc (by have := HO1.out.2.size; omega) _).grown hgrow (by have := HO1.out.2.size; simp; omega) (fun k hk => (HO1.out.1.lt k hk).1)⟩
        clear hown hgrow
        go_wp2_with fail
        rw [rounds_succ]
        go_wp2_with fail
        go_ret
        rw [HE2.out, ← HB0.out]
        exact ⟨_, rfl, HO2.out.1, HO2.out.2⟩
      · have HE2 : Hid (r = [((i : Int), (0 : Int))]) := by show _ = _; rw [HE.out, if_pos h1, if_neg h2]; rfl
        clear HE
        subst h1
        go_wp2_with (at_builtin; refine wpList_append_own _ rfl (.tmp 29) (.tmp 33) 61 rfl B0 60 i4 (.agg #[.int .i64 0, .int .i64 0]) 2 16 Tryz.underlying61 hi4 hz40 hz41 hz42 rfl (by decide) _ _ _ rfl (HO0.out.1.alloc _) ⟨w.heap.size, 0, none⟩ 1 1 [.int .i64 (i : Int), .int .i64 0] rfl rfl (row_new w 60 _) (by intro u hu; simp at hu; rcases hu with rfl | rfl <;> rfl) (by unfold maxLen; omega) (by omega) (by have := HO0.out.2.size; simp; omega) ?_)
        intro v1 W1 hown hgrow _
        have HO1 : Hid (W1.ownsRow B0 60 2 v1 1 (ecells [((i : Int), (0 : Int))]) ∧ Below B0 w W1) := ⟨hown, (HO0.out.2.alloc (by have := HO0.out.2.size; omega) _).grown hgrow (by have := HO0.out.2.size; simp; omega) (fun k hk => (HO0.out.1.lt k hk).1)⟩
        clear hown hgrow
        go_wp2_with fail
        rw [rounds_succ]
        go_wp2_with fail
        rw [rounds_succ]
        go_wp2_with fail
        go_ret
        rw [HE2.out, ← HB0.out]
        exact ⟨_, rfl, HO1.out.1, HO1.out.2⟩
    · by_cases h2 : y = n
      · have HE2 : Hid (r = [((i : Int), (1 : Int))]) := by show _ = _; rw [HE.out, if_neg h1, if_pos h2]; rfl
        clear HE
        subst h2
        go_wp2_with fail
        rw [rounds_succ]
        go_wp2_with (at_builtin; refine wpList_append_own _ rfl (.tmp 29) (.tmp 33) 61 rfl B0 60 i4 (.agg #[.int .i64 0, .int .i64 0]) 2 16 Tryz.underlying61 hi4 hz40 hz41 hz42 rfl (by decide) _ _ _ rfl (HO0.out.1.alloc _) ⟨w.heap.size, 0, none⟩ 1 1 [.int .i64 (i : Int), .int .i64 1] rfl rfl (row_new w 60 _) (by intro u hu; simp at hu; rcases hu with rfl | rfl <;> rfl) (by unfold maxLen; omega) (by omega) (by have := HO0.out.2.size; simp; omega) ?_)
        intro v2 W2 hown hgrow _
        have HO2 : Hid (W2.ownsRow B0 60 2 v2 1 (ecells [((i : Int), (1 : Int))]) ∧ Below B0 w W2) := ⟨hown, (HO0.out.2.alloc (by have := HO0.out.2.size; omega) _).grown hgrow (by have := HO0.out.2.size; simp; omega) (fun k hk => (HO0.out.1.lt k hk).1)⟩
        clear hown hgrow
        go_wp2_with fail
        rw [rounds_succ]
        go_wp2_with fail
        go_ret
        rw [HE2.out, ← HB0.out]
        exact ⟨_, rfl, HO2.out.1, HO2.out.2⟩
      · have HE2 : Hid (r = []) := by show _ = _; rw [HE.out, if_neg h1, if_neg h2]; rfl
        clear HE
        go_wp2_with fail
        rw [rounds_succ]
        go_wp2_with fail
        rw [rounds_succ]
        go_wp2_with fail
        go_ret
        rw [HE2.out, ← HB0.out]
        exact ⟨_, rfl, HO0.out.1, HO0.out.2⟩

end Go.Proofs.YtagkgejdammflaaGreat

namespace Go.Proofs.YtagkgejdammflaaGreat
open Go.RowKit Fl
set_option maxRecDepth 100000

theorem grown_below {w w' : World} (h : Below w.heap.size w w') (r : Option Nat) : w.grownBy w' r := ⟨h.os, h.tape, h.output, h.size, fun k hk _ => h.block k hk⟩
theorem own_below {w w' : World} {B : Nat} {t : TypeId} {s n : Nat} {v : Value} {xs : List Value} (h : w.ownsRow B t s v n xs) (hb : Below w.heap.size w w') : w'.ownsRow B t s v n xs := by
  refine h.kept (grown_below hb none) ?_
  cases e : v.ownBlock with
  | none => exact Or.inl rfl
  | some k => exact Or.inr (by simp)

theorem wpList_app_prs {P : Program} {w : World} {ops : Array Oper} {rest : List Oper} {o : Oper} {a : Act} {Q : Exit → Act → World → Prop} (hgd : o.guard = none) (s x : Operand) (t : TypeId)
    (ho : o.op = .call { callee := .builtin .append, args := #[s, x], argTypes := #[t, t] })
    (base : Nat) (e : TypeId) (i : TypeInfo) (z : Value) (ht : P.underlying t = some (.slice e)) (hi : P.info? e = some i) (hz : i.zero = some z)
    (hsize : i.size = 2) (hby : i.bytes = 16) (hzs : z.cells.size = 2)
    (v : Value) (n : Nat) (xs : List (Int × Int)) (hs : a.eval s = v) (hown : w.ownsRow base e 2 v n (ecells xs))
    (y : Value) (ys : List (Int × Int)) (hx : a.eval x = y) (hy : Prs w w.heap.size y ys) (h63 : n + ys.length ≤ 1000000) (hbase : base ≤ w.heap.size)
    (h : ∀ v' w', w'.ownsRow base e 2 v' (n + ys.length) (ecells (xs ++ ys)) → w.grownBy w' v.ownBlock → wpList P ops Q rest (a.put o.dst v') w') : wpList P ops Q (o :: rest) a w := by
  have hy2 := hy
  obtain ⟨A, c, rfl, ⟨h0, hc⟩, hp⟩ := hy
  cases A with
  | none =>
    have hl : ys.length = 0 := by
      rcases Nat.eq_zero_or_pos ys.length with e0 | e0
      · exact e0
      · obtain ⟨b, o', cur, fr, e1, _⟩ := hp e0; cases e1
    have hys : ys = [] := List.length_eq_zero_iff.1 hl
    subst hys
    have hc0 := h0 rfl
    subst hc0
    refine wpList_append_own_none hgd s x t ho base e i 2 ht hi v n (ecells xs) hs hown hx ?_
    refine h v w (by simpa using hown) ⟨rfl, rfl, rfl, Nat.le_refl _, fun _ _ _ => rfl⟩
  | some ad =>
    refine wpList_append_own w hgd s x t ho base e i z 2 16 ht hi hz hsize hby hzs (by decide) v n (ecells xs) hs hown ad ys.length c (ecells ys) hx (ecells_len ys) ?_ (ecells_one ys) (by unfold maxLen; omega) (by omega) hbase ?_
    · intro j u hu
      have hpos : 0 < ys.length := by
        have := (List.getElem?_eq_some_iff.1 hu).1; rw [ecells_len] at this; omega
      obtain ⟨b, o', e1, _, hcell⟩ := hy2.cells hpos
      injection e1 with e1
      subst e1
      exact hcell j u hu
    · intro v' w' h1 h2 _
      rw [ecells_app] at h1
      exact h v' w' h1 h2

set_option maxHeartbeats 2000000 in
theorem ends_any (w : World) (D : Nat) (v : Value) (L : Lay) (n : Int) (h : IsGr w D v L) (hD : D ≤ w.heap.size) (hL : Fits L) :
    Calls Tryz.prog 61 #[v, .int .i64 n] w fun e w' => ∃ v', e = .returned v' ∧ w'.ownsRow w.heap.size 60 2 v' (endsL L.secs n).length (ecells (endsL L.secs n)) ∧ Below w.heap.size w w' := by
  have HI := Lib.hid h
  obtain ⟨g, vS, vQ, vP, rfl, hg⟩ := h
  obtain ⟨A, c, rfl⟩ := hg.secs
  have f0 := hg.row.cell 0
  simp only [List.getElem?_toArray, List.getElem?_cons_zero] at f0
  have hs := hL.s
  have HL := Lib.hid hL
  clear hg hL
  have HE : Hid (endsL L.secs n = endsTo L.secs n L.secs.length) := rfl
  generalize endsL L.secs n = r at *
  obtain ⟨m, hm⟩ : ∃ m, L.secs.length = m := ⟨_, rfl⟩
  rw [hm] at HE hs f0
  have HM := Lib.hid hm
  clear hm
  obtain ⟨i4, hi4, hz40, hz41, hz42⟩ := info_parts Tryz.info60
  obtain ⟨B0, hB0⟩ : ∃ n, n = w.heap.size := ⟨_, rfl⟩
  have HB0 := Lib.hid hB0
  have hB1 : B0 ≤ w.heap.size := by omega
  have hDB : D ≤ B0 := by omega
  clear hB0
  go_enter Tryz.func61, Tryz.ntmps61
  go_wp2_with fail
  clear f0
  go_loopw [5, 14] (fun t k wr => ∃ i : Nat, i ≤ m ∧ k = .int .i64 i ∧ Hid (wr.ownsRow B0 60 2 t (endsTo L.secs n i).length (ecells (endsTo L.secs n i)) ∧ Below B0 w wr)) (fun _ k _ => m - (intOf k).toNat)
  case atStart => exact ⟨0, Nat.zero_le _, rfl, World.ownsRow_nil _ _ _ _, Below.refl _ _⟩
  case round =>
    obtain ⟨i, hi, rfl, HJ⟩ := hrel
    by_cases hlt : i < m
    · have HS : Hid (endsTo L.secs n (i + 1) = endsTo L.secs n i ++ endsOfL L.secs (i : Int) n) := by
        show _ = _
        rw [endsOfL_nat _ _ _ (by have := HM.out; omega)]; rfl
      have hb1 := endsTo_le L.secs n i
      have hb2 := endsOfL_le L.secs (i : Int) n
      go_wp2_with fail
      refine (endsOf_any wr D _ L (i : Int) n (HI.out.keep HJ.out.2 hDB) HL.out).mono ?_; rintro e w1 ⟨v1, rfl, ho1, hb⟩
      obtain ⟨A1, c1, hv1⟩ := own_slice ho1
      subst hv1
      obtain ⟨A5, c5, hv5⟩ := own_slice HJ.out.1
      subst hv5
      have HO := Lib.hid (own_below HJ.out.1 hb)
      have HP := Lib.hid (Prs.of_own ho1)
      have HB : Hid (Below B0 w w1) := HJ.out.2.trans (hb.mono (by have := HJ.out.2.size; omega))
      clear hb ho1
      generalize endsOfL L.secs (i : Int) n = ys at *
      generalize endsTo L.secs n i = xs at *
      go_wp2_with (at_builtin; refine wpList_app_prs rfl (.tmp 17) (.tmp 21) 61 rfl B0 60 i4 _ Tryz.underlying61 hi4 hz40 hz41 hz42 rfl _ _ xs rfl HO.out _ ys rfl HP.out (by omega) (by have := HB.out.size; omega) ?_)
      intro v5 w5 hown5 hgrow5
      have HNX : Hid (w5.ownsRow B0 60 2 v5 (endsTo L.secs n (i + 1)).length (ecells (endsTo L.secs n (i + 1))) ∧ Below B0 w w5) := by
        refine ⟨?_, HB.out.grown hgrow5 (by have := HB.out.size; omega) (fun k hk => (HO.out.lt k hk).1)⟩
        rw [HS.out, List.length_append]; exact hown5
      clear hown5 hgrow5
      go_wp2_with fail
      go_roundw
      case rel => exact ⟨i + 1, by omega, by go_num, HNX⟩
      case measure => simp [intOf]; omega
    · have HIE : Hid (i = m) := by show _ = _; omega
      go_wp2_with fail
      go_ret
      have h1 := HIE.out
      subst h1
      rw [HE.out, ← HB0.out]
      exact ⟨_, rfl, HJ.out.1, HJ.out.2⟩

end Go.Proofs.YtagkgejdammflaaGreat

namespace Go.Proofs.YtagkgejdammflaaGreat
open Go.RowKit Fl
set_option maxRecDepth 100000

/-- The node of an end, if there is such an end. -/
def nodeL (ss : List (Int × Int × Int)) (e : Int × Int) : Option Int :=
  if hasB ss e.1 then (if e.2 = 0 then some (ss.getD e.1.toNat (0, 0, 0)).2.1 else if e.2 = 1 then some (ss.getD e.1.toNat (0, 0, 0)).2.2 else none) else none

def RetNode (o : Option Int) (w : World) (e : Ending) (w' : World) : Prop := e = .returned (.tuple #[.int .i64 (o.getD 0), .bool o.isSome]) ∧ Below w.heap.size w w'

set_option maxHeartbeats 2000000 in
theorem node_any (w : World) (D : Nat) (v : Value) (L : Lay) (s k : Int) (h : IsGr w D v L) (hD : D ≤ w.heap.size) (hL : Fits L) :
    Calls Tryz.prog 115 #[v, .agg #[.int .i64 s, .int .i64 k]] w (RetNode (nodeL L.secs (s, k)) w) := by
  have hb0 := (Below.refl w.heap.size w).alloc (Nat.le_refl _) (.cells #[.int .i64 s, .int .i64 k] 60)
  have HI := Lib.hid (h.keep hb0 hD)
  have HBW0 := Lib.hid hb0
  obtain ⟨g, vS, vQ, vP, rfl, hg⟩ := h
  have HL := Lib.hid hL
  have hs := hL.s
  clear hb0 hL
  cases hb : hasB L.secs s with
  | false =>
    have HB := Lib.hid hb
    have HE : Hid (nodeL L.secs (s, k) = none) := by show _ = _; unfold nodeL; simp only [hb]; rfl
    generalize nodeL L.secs (s, k) = r at *
    clear hg hb
    go_enter Tryz.func115, Tryz.ntmps115
    go_wp2_with fail
    refine (has_any _ D _ L s HI.out HL.out).mono ?_; rintro e w' ⟨rfl, rfl⟩
    rw [HB.out]
    go_wp2_with fail
    go_ret2
    rw [HE.out]
    exact ⟨rfl, HBW0.out⟩
  | true =>
    obtain ⟨i, rfl, hi⟩ := hasB_nat hb
    have HB := Lib.hid hb
    obtain ⟨A, c, rfl⟩ := hg.secs
    have hgd : g < w.heap.size := Nat.lt_of_lt_of_le hg.lt hD
    have f0 := HI.out
    obtain ⟨g', vS', vQ', vP', e1, hg1⟩ := f0
    obtain ⟨b, o, rfl, hbD, -, c1, c2⟩ := hg.s.at i hi
    have hbw : b < w.heap.size := Nat.lt_of_lt_of_le hbD hD
    have HE : Hid (nodeL L.secs ((i : Int), k) = if k = 0 then some L.secs[i].2.1 else if k = 1 then some L.secs[i].2.2 else none) := by
      show _ = _
      unfold nodeL
      have hge : L.secs.getD i (0, 0, 0) = L.secs[i] := by simp [List.getD, hi]
      simp only [hb, Int.toNat_natCast, hge, if_true]
    obtain ⟨x, hx⟩ : ∃ x, L.secs[i].2.1 = x := ⟨_, rfl⟩
    obtain ⟨y, hy⟩ : ∃ x, L.secs[i].2.2 = x := ⟨_, rfl⟩
    rw [hx] at c1 HE
    rw [hy] at c2 HE
    clear e1 hg1 hx hy hb
    generalize nodeL L.secs ((i : Int), k) = r at *
    generalize hm : L.secs.length = m at *
    have HM := Lib.hid hm
    clear hm
    have f0 : w.cell? ⟨g, 0, none⟩ = some (.slice (some ⟨b, o, none⟩) m c) := by have := hg.row.cell 0; simpa using this
    clear hg
    have k0 := cell_alloc (o := .cells #[.int .i64 (i : Int), .int .i64 k] 60) f0
    have k1 := cell_alloc (o := .cells #[.int .i64 (i : Int), .int .i64 k] 60) c1
    have k2 := cell_alloc (o := .cells #[.int .i64 (i : Int), .int .i64 k] 60) c2
    have HRE := Lib.hid (Row.new w 60 #[.int .i64 (i : Int), .int .i64 k])
    clear f0 c1 c2
    have hi0 : (0 : Int) ≤ (i : Int) := Int.natCast_nonneg _
    have hi1 : (i : Int) < (m : Int) := by omega
    go_enter Tryz.func115, Tryz.ntmps115
    go_wp2_with fail
    refine (has_any _ D _ L (i : Int) HI.out HL.out).mono ?_; rintro e w' ⟨rfl, rfl⟩
    rw [HB.out]
    go_upto_region 3 with (fail)
    obtain ⟨n0, hn0⟩ : ∃ n, n = w.heap.size := ⟨_, rfl⟩
    rw [← hn0] at HRE HBW0 ⊢
    have HN0 := Lib.hid hn0
    clear hn0 hgd hbw hD
    generalize w.alloc (.cells #[.int .i64 (i : Int), .int .i64 k] 60) = W0 at *
    have d1 : W0.cell? ⟨g, 0, none⟩ = some (.slice (some ⟨b, o, none⟩) m c) := k0
    have d2 : W0.cell? ⟨b, o + i * 3 + 1, none⟩ = some (.int .i64 x) := k1
    have d3 : W0.cell? ⟨b, o + i * 3 + 2, none⟩ = some (.int .i64 y) := k2
    have d4 : W0.cell? ⟨n0, 0, none⟩ = some (.int .i64 (i : Int)) := by have := HRE.out.cell 0; simpa using this
    clear k0 k1 k2
    refine AnyBut.region (fun w' => w'.cell? ⟨g, 0, none⟩ = some (.slice (some ⟨b, o, none⟩) m c) ∧ w'.cell? ⟨b, o + i * 3 + 1, none⟩ = some (.int .i64 x) ∧ w'.cell? ⟨b, o + i * 3 + 2, none⟩ = some (.int .i64 y) ∧ w'.cell? ⟨n0, 0, none⟩ = some (.int .i64 (i : Int))) 10 (by kernel_rfl) ?_
    refine AnyBut.take 0 rfl (by kernel_rfl) (by kernel_rfl) (by kernel_rfl) (by kernel_rfl) (by decide) (fun _ _ _ h => h) (yields_of (by rfl) (fun w9 hS => (by obtain ⟨s1, s2, s3, s4⟩ := hS; go_simp; try rfl))) ⟨d1, d2, d3, d4⟩ ?_
    refine AnyBut.take 1 rfl (by kernel_rfl) (by kernel_rfl) (by kernel_rfl) (by kernel_rfl) (by decide) (fun _ _ _ h => h) (yields_of (by rfl) (fun w9 hS => (by obtain ⟨s1, s2, s3, s4⟩ := hS; go_simp; try rfl))) ⟨d1, d2, d3, d4⟩ ?_
    refine AnyBut.take 2 rfl (by kernel_rfl) (by kernel_rfl) (by kernel_rfl) (by kernel_rfl) (by decide) (fun _ _ _ h => h) (yields_of (by rfl) (fun w9 hS => (by obtain ⟨s1, s2, s3, s4⟩ := hS; go_simp; try rfl))) ⟨d1, d2, d3, d4⟩ ?_
    refine AnyBut.take 3 rfl (by kernel_rfl) (by kernel_rfl) (by kernel_rfl) (by kernel_rfl) (by decide) (fun _ _ _ h => h) (yields_of (by rfl) (fun w9 hS => (by obtain ⟨s1, s2, s3, s4⟩ := hS; go_simp; try rfl))) ⟨d1, d2, d3, d4⟩ ?_
    refine AnyBut.take 4 rfl (by kernel_rfl) (by kernel_rfl) (by kernel_rfl) (by kernel_rfl) (by decide) (fun _ _ _ h => h) (yields_of (by rfl) (fun w9 hS => (by obtain ⟨s1, s2, s3, s4⟩ := hS; go_simp; try rfl))) ⟨d1, d2, d3, d4⟩ ?_
    refine AnyBut.take 5 rfl (by kernel_rfl) (by kernel_rfl) (by kernel_rfl) (by kernel_rfl) (by decide) (fun _ _ _ h => h) (yields_of (by rfl) (fun w9 hS => (by obtain ⟨s1, s2, s3, s4⟩ := hS; go_simp; try rfl))) ⟨d1, d2, d3, d4⟩ ?_
    refine AnyBut.take 6 rfl (by kernel_rfl) (by kernel_rfl) (by kernel_rfl) (by kernel_rfl) (by decide) (fun _ _ _ h => h) (yields_of (by rfl) (fun w9 hS => (by obtain ⟨s1, s2, s3, s4⟩ := hS; go_simp; try rfl))) ⟨d1, d2, d3, d4⟩ ?_
    refine AnyBut.take 7 rfl (by kernel_rfl) (by kernel_rfl) (by kernel_rfl) (by kernel_rfl) (by decide) (fun _ _ _ h => h) (yields_of (by rfl) (fun w9 hS => (by obtain ⟨s1, s2, s3, s4⟩ := hS; go_simp; try rfl))) ⟨d1, d2, d3, d4⟩ ?_
    refine AnyBut.take 8 rfl (by kernel_rfl) (by kernel_rfl) (by kernel_rfl) (by kernel_rfl) (by decide) (fun _ _ _ h => h) (yields_of (by rfl) (fun w9 hS => (by obtain ⟨s1, s2, s3, s4⟩ := hS; go_simp; try rfl))) ⟨d1, d2, d3, d4⟩ ?_
    refine AnyBut.one 9 rfl (by kernel_rfl) (by rfl) ?_
    go_simp
    refine ⟨⟨cell_alloc d1, cell_alloc d2, cell_alloc d3, cell_alloc d4⟩, ?_⟩
    refine AnyBut.one 10 rfl (by kernel_rfl) (by rfl) ?_
    go_simp
    refine AnyBut.done (by kernel_rfl) ?_
    clear d1 d2 d3 d4 hi0 hi1
    have HBW : Hid (Below n0 w ((W0.alloc (.cells #[.int .i64 x, .int .i64 y] 58)).drew)) := ((HBW0.out.alloc (by have := HRE.out.lt; omega) _).drew)
    have r1 : Row ((W0.alloc (.cells #[.int .i64 x, .int .i64 y] 58)).drew) n0 60 #[.int .i64 (i : Int), .int .i64 k] := HRE.out.alloc _
    have r2 : Row ((W0.alloc (.cells #[.int .i64 x, .int .i64 y] 58)).drew) W0.heap.size 58 #[.int .i64 x, .int .i64 y] := Row.new W0 58 _
    generalize (W0.alloc (.cells #[.int .i64 x, .int .i64 y] 58)).drew = W1 at *
    generalize W0.heap.size = a1 at *
    have e0 := r1.cell 0; have e1 := r1.cell 1; have e2 := r2.cell 0; have e3 := r2.cell 1
    simp only [List.getElem?_toArray, List.getElem?_cons_zero, List.getElem?_cons_succ] at e0 e1 e2 e3
    clear r1 r2
    rcases (show k < 0 ∨ k = 0 ∨ k = 1 ∨ 2 ≤ k by omega) with hk | hk | hk | hk
    · have HE2 : Hid (r = none) := by show _ = _; rw [HE.out, if_neg (by omega), if_neg (by omega)]
      clear HE
      go_wp2_with fail
      go_ret2
      rw [HE2.out]
      exact ⟨rfl, by rw [← HN0.out]; exact HBW.out⟩
    · have HE2 : Hid (r = some x) := by show _ = _; rw [HE.out, if_pos hk]
      clear HE
      subst hk
      go_wp2_with fail
      go_ret2
      rw [HE2.out]
      exact ⟨rfl, by rw [← HN0.out]; exact HBW.out⟩
    · have HE2 : Hid (r = some y) := by show _ = _; rw [HE.out, if_neg (by omega), if_pos hk]
      clear HE
      subst hk
      go_wp2_with fail
      go_ret2
      rw [HE2.out]
      exact ⟨rfl, by rw [← HN0.out]; exact HBW.out⟩
    · have HE2 : Hid (r = none) := by show _ = _; rw [HE.out, if_neg (by omega), if_neg (by omega)]
      clear HE
      have hk2 : ¬ k < 0 := by omega
      go_wp2_with fail
      go_ret2
      rw [HE2.out]
      exact ⟨rfl, by rw [← HN0.out]; exact HBW.out⟩

end Go.Proofs.YtagkgejdammflaaGreat

namespace Go.Proofs.YtagkgejdammflaaGreat
open Go.RowKit Fl
set_option maxRecDepth 100000

/-- The first point at a node. -/
def pointL (ps : List (Int × Int × Int × Int)) (n : Int) : Int :=
  match ps.findIdx? (fun p => decide (p.1 = n)) with
  | some i => (i : Int)
  | none => -1

theorem pointL_at {ps : List (Int × Int × Int × Int)} {n : Int} {i : Nat} (hi : i < ps.length) (h : ps[i].1 = n) (hb : ∀ j (hj : j < ps.length), j < i → ps[j].1 ≠ n) : pointL ps n = (i : Int) := by
  unfold pointL
  have e : ps.findIdx? (fun p => decide (p.1 = n)) = some i := by
    rw [List.findIdx?_eq_some_iff_getElem]
    exact ⟨hi, by simpa using h, fun j hj => by simpa using hb j (by omega) hj⟩
  rw [e]
theorem pointL_none {ps : List (Int × Int × Int × Int)} {n : Int} (hb : ∀ j (hj : j < ps.length), ps[j].1 ≠ n) : pointL ps n = -1 := by
  unfold pointL
  have e : ps.findIdx? (fun p => decide (p.1 = n)) = none := by
    rw [List.findIdx?_eq_none_iff]
    intro x hx
    obtain ⟨j, hj, rfl⟩ := List.getElem_of_mem hx
    simpa using hb j hj
  rw [e]

theorem closure49 (w : World) (a b c d n : Int) (bx : Nat) (hx : w.cell? ⟨bx, 0, none⟩ = some (.int .i64 n)) :
    Calls Tryz.prog 80 #[.agg #[.int .i64 a, .int .i64 b, .int .i64 c, .int .i64 d], .pointer (some ⟨bx, 0, none⟩)] w fun e w' => e = .returned (.bool (a == n)) ∧ Below w.heap.size w w' := by
  have k0 := cell_alloc (o := .cells #[.int .i64 a, .int .i64 b, .int .i64 c, .int .i64 d] 41) hx
  have HB := Lib.hid ((Below.refl w.heap.size w).alloc (Nat.le_refl _) (.cells #[.int .i64 a, .int .i64 b, .int .i64 c, .int .i64 d] 41))
  clear hx
  go_enter Tryz.func80, Tryz.ntmps80
  go_wp2_with fail
  go_ret
  exact ⟨rfl, HB.out⟩

set_option maxHeartbeats 2000000 in
theorem indexFunc48 (w : World) (D bx : Nat) (v : Value) (ps : List (Int × Int × Int × Int)) (n : Int) (h : Pts w D v ps) (hD : D ≤ w.heap.size) (hl : ps.length ≤ 100) (hx : w.cell? ⟨bx, 0, none⟩ = some (.int .i64 n)) (hbx : bx < w.heap.size) :
    Calls Tryz.prog 79 #[v, .func (.func 80) #[] #[.pointer (some ⟨bx, 0, none⟩)]] w fun e w' => e = .returned (.int .i64 (pointL ps n)) ∧ Below w.heap.size w w' := by
  have HP := Lib.hid h
  obtain ⟨A, c, rfl, -⟩ := h
  have HX := Lib.hid hx
  clear hx
  obtain ⟨r, hr⟩ : ∃ r, pointL ps n = r := ⟨_, rfl⟩
  rw [hr]
  have HR := Lib.hid hr
  clear hr
  obtain ⟨m, hm⟩ : ∃ m, ps.length = m := ⟨_, rfl⟩
  rw [hm] at HP hl ⊢
  have HM := Lib.hid hm
  clear hm
  obtain ⟨B0, hB0⟩ : ∃ n, n = w.heap.size := ⟨_, rfl⟩
  rw [← hB0] at hD hbx
  have HB0 := Lib.hid hB0
  clear hB0
  go_enter Tryz.func79, Tryz.ntmps79
  go_wp2_with fail
  go_loopw [8] (fun k wr => ∃ i : Nat, i ≤ m ∧ k = .int .i64 i ∧ Hid ((∀ j (hj : j < ps.length), j < i → ps[j].1 ≠ n) ∧ Below B0 w wr)) (fun k _ => m - (intOf k).toNat)
  case atStart => exact ⟨0, Nat.zero_le _, rfl, fun j _ hj => absurd hj (by omega), Below.refl _ _⟩
  case round =>
    obtain ⟨i, hi, rfl, HJ⟩ := hrel
    by_cases hlt : i < m
    · have him : i < ps.length := by have := HM.out; omega
      obtain ⟨b, o, rfl, hb, c0, c1, c2, c3⟩ := HP.out.at i him
      have lift : ∀ p : Addr, p.block < B0 → wr.cell? p = w.cell? p := fun p hp => HJ.out.2.cell (p := p) hp
      have e0 := (lift ⟨b, o + i * 4, none⟩ (by show b < B0; omega)).trans c0
      have e1 := (lift ⟨b, o + i * 4 + 1, none⟩ (by show b < B0; omega)).trans c1
      have e2 := (lift ⟨b, o + i * 4 + 2, none⟩ (by show b < B0; omega)).trans c2
      have e3 := (lift ⟨b, o + i * 4 + 3, none⟩ (by show b < B0; omega)).trans c3
      have HXR : Hid (wr.cell? ⟨bx, 0, none⟩ = some (.int .i64 n)) := (lift ⟨bx, 0, none⟩ hbx).trans HX.out
      have HQ1 : Hid (ps[i].1 = n → r = (i : Int)) := fun e => by rw [← HR.out]; exact pointL_at him e HJ.out.1
      have HQ2 : Hid (ps[i].1 ≠ n → ∀ j (hj : j < ps.length), j < i + 1 → ps[j].1 ≠ n) := fun e j hj hji => by
        rcases Nat.lt_or_ge j i with c | c
        · exact HJ.out.1 j hj c
        · obtain rfl : j = i := by omega
          exact e
      clear lift c0 c1 c2 c3
      generalize ps[i] = z at *
      obtain ⟨z0, z1, z2, z3⟩ := z
      simp only at e0 e1 e2 e3 HQ1 HQ2
      go_wp2_with fail
      refine (closure49 wr z0 z1 z2 z3 n bx HXR.out).mono ?_; rintro e w1 ⟨rfl, hb1⟩
      have HB1 : Hid (Below B0 w w1) := HJ.out.2.trans (hb1.mono (by have := HJ.out.2.size; have := HB0.out; omega))
      clear hb1 e0 e1 e2 e3
      by_cases hz : z0 = n
      · have HF := Lib.hid (HQ1.out hz)
        subst hz
        go_wp2_with fail
        go_ret
        exact ⟨ret_int HF.out.symm, by rw [← HB0.out]; exact HB1.out⟩
      · have hz2 : (z0 == n) = false := by simpa using hz
        have HN2 := Lib.hid (HQ2.out hz)
        go_wp2_with fail
        go_roundw
        case rel => exact ⟨i + 1, by omega, by go_num, HN2.out, HB1.out⟩
        case measure => simp [intOf]; omega
    · have HF : Hid (r = -1) := by
        show _ = _
        rw [← HR.out]
        exact pointL_none fun j hj => HJ.out.1 j hj (by have := HM.out; omega)
      go_wp2_with fail
      go_ret
      exact ⟨ret_int HF.out.symm, by rw [← HB0.out]; exact HJ.out.2⟩

set_option maxHeartbeats 1000000 in
theorem point_any (w : World) (D : Nat) (v : Value) (L : Lay) (n : Int) (h : IsGr w D v L) (hD : D ≤ w.heap.size) (hL : Fits L) :
    Calls Tryz.prog 65 #[v, .int .i64 n] w fun e w' => e = .returned (.int .i64 (pointL L.points n)) ∧ Below w.heap.size w w' := by
  have hb0 := (Below.refl w.heap.size w).alloc (Nat.le_refl _) (.cells #[.int .i64 n] 3)
  have hI := h.keep hb0 hD
  obtain ⟨g, vS, vQ, vP, rfl, hg⟩ := hI
  have f1 := hg.row.cell 1
  simp only [List.getElem?_toArray, List.getElem?_cons_zero, List.getElem?_cons_succ] at f1
  have HQ := Lib.hid hg.q
  have hq := hL.q
  have HB0 := Lib.hid hb0
  have HX : Hid ((w.alloc (.cells #[.int .i64 n] 3)).cell? ⟨w.heap.size, 0, none⟩ = some (.int .i64 n)) := by show _ = _; simp
  clear hg h hb0 hL
  go_enter Tryz.func65, Tryz.ntmps65
  go_wp2_with fail
  refine (indexFunc48 _ D w.heap.size vQ L.points n HQ.out (by simp; omega) hq HX.out (by simp)).mono ?_; rintro e w1 ⟨rfl, hb1⟩
  have HB1 := Lib.hid (HB0.out.trans (hb1.mono HB0.out.size))
  clear hb1
  go_wp2_with fail
  go_ret
  exact ⟨rfl, HB1.out⟩

theorem point_nil (w : World) (n : Int) : Calls Tryz.prog 65 #[.pointer none, .int .i64 n] w fun e w' => e = .returned (.int .i64 (-1)) ∧ Below w.heap.size w w' := by
  have HB := Lib.hid ((Below.refl w.heap.size w).alloc (Nat.le_refl _) (.cells #[.int .i64 n] 3))
  go_enter Tryz.func65, Tryz.ntmps65
  go_wp2_with fail
  go_ret
  exact ⟨rfl, HB.out⟩

end Go.Proofs.YtagkgejdammflaaGreat
