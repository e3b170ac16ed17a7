/- Contracts: endsOf. -/
import Derived.Test.YtifcgkpannlnnaaG1
import Derived.LoopN
namespace Go.Proofs.Ytifcgkpannlnnaa
open Go.RowKit Fl
set_option maxRecDepth 100000

theorem index2_0 (x y : Int) (w : World) : Sem.run Try.prog (Instr.index 78 (.agg #[.int .i64 x, .int .i64 y]) (.int .i64 0)) w = .ok (.int .i64 x) w := by
  simp [Instr.index, go_sem]
theorem index2_1 (x y : Int) (w : World) : Sem.run Try.prog (Instr.index 78 (.agg #[.int .i64 x, .int .i64 y]) (.int .i64 1)) w = .ok (.int .i64 y) w := by
  simp [Instr.index, go_sem]

set_option maxHeartbeats 4000000 in
theorem endsOf_any (w : World) (D : Nat) (v : Value) (L : Lay) (s n : Int) (h : IsGr w D v L) (hL : Fits L) :
    Calls Try.prog 98 #[v, .int .i64 s, .int .i64 n] w fun e w' => ∃ v', e = .returned v' ∧ w'.ownsRow w.heap.size 85 2 v' (endsOfL L.secs s n).length (ecells (endsOfL L.secs s n)) ∧ Below w.heap.size w w' := by
  have hI := h
  obtain ⟨g, vS, vQ, vP, rfl, hg⟩ := h
  cases hb : hasB L.secs s with
  | false =>
    have HB := Lib.hid hb
    have HE : Hid (endsOfL L.secs s n = []) := by show _ = _; unfold endsOfL; rw [hb]; rfl
    generalize endsOfL L.secs s n = r at *
    have HI := Lib.hid hI
    clear hI hg hb
    go_enter Try.func98, Try.ntmps98
    go_wp2_with fail
    refine (has_any w D _ L s HI.out hL).mono ?_; rintro e w' ⟨rfl, rfl⟩
    rw [HB.out]
    go_wp2_with fail
    go_ret
    rw [HE.out]
    exact ⟨_, rfl, World.ownsRow_nil _ _ _ _, Below.refl _ _⟩
  | true =>
    obtain ⟨i, rfl, hi⟩ := hasB_nat hb
    have HB := Lib.hid hb
    have HI := Lib.hid hI
    obtain ⟨A, c, rfl⟩ := hg.secs
    have f0 := hg.row.cell 0
    simp only [List.getElem?_toArray, List.getElem?_cons_zero] at f0
    obtain ⟨b, o, rfl, -, -, c1, c2⟩ := hg.s.at i hi
    have HE : Hid (endsOfL L.secs (i : Int) n = (if L.secs[i].2.1 = n then [((i : Int), (0 : Int))] else []) ++ (if L.secs[i].2.2 = n then [((i : Int), (1 : Int))] else [])) := by
      show _ = _
      rw [endsOfL_nat _ _ _ hi]; unfold endsAt
      have hge : L.secs.getD i (0, 0, 0) = L.secs[i] := by simp [List.getD, hi]
      rw [hge]
    have hs := hL.s
    clear hI hg hb
    obtain ⟨x, hx⟩ : ∃ x, L.secs[i].2.1 = x := ⟨_, rfl⟩
    obtain ⟨y, hy⟩ : ∃ x, L.secs[i].2.2 = x := ⟨_, rfl⟩
    rw [hx] at c1 HE
    rw [hy] at c2 HE
    have HL := Lib.hid hL
    clear hL hx hy
    generalize endsOfL L.secs (i : Int) n = r at *
    generalize hm : L.secs.length = m at *
    have HM := Lib.hid hm
    clear hm
    obtain ⟨i4, hi4, hz40, hz41, hz42⟩ := info_parts Try.info85
    go_enter Try.func98, Try.ntmps98
    go_wp2_with fail
    refine (has_any w D _ L (i : Int) HI.out HL.out).mono ?_; rintro e w' ⟨rfl, rfl⟩
    rw [HB.out]
    go_wp2_with fail
    refine wp_loop_rounds 3 ?_
    rw [rounds_succ]
    have HO0 : Hid (w.ownsRow w.heap.size 85 2 (.slice none 0 0) 0 (ecells []) ∧ Below w.heap.size w w) := ⟨World.ownsRow_nil _ _ _ _, Below.refl _ _⟩
    obtain ⟨B0, hB0⟩ : ∃ n, n = w.heap.size := ⟨_, rfl⟩
    have hB1 : B0 ≤ w.heap.size := by omega
    rw [← hB0] at HO0
    have HB0 := Lib.hid hB0
    clear hB0
    have ix0 := index2_0 x y
    have ix1 := index2_1 x y
    by_cases h1 : x = n
    · by_cases h2 : y = n
      · have HE2 : Hid (r = [((i : Int), (0 : Int)), ((i : Int), (1 : Int))]) := by show _ = _; rw [HE.out, if_pos h1, if_pos h2]; rfl
        clear HE
        subst h1
        subst h2
        go_wp2_with (at_builtin; refine wpList_append_own _ rfl (.tmp 29) (.tmp 33) 86 rfl B0 85 i4 (.agg #[.int .i64 0, .int .i64 0]) 2 16 Try.underlying86 hi4 hz40 hz41 hz42 rfl (by decide) _ _ _ rfl (HO0.out.1.alloc _) ⟨w.heap.size, 0, none⟩ 1 1 [.int .i64 (i : Int), .int .i64 0] rfl rfl (row_new w 85 _) (by intro u hu; simp at hu; rcases hu with rfl | rfl <;> rfl) (by unfold maxLen; omega) (by omega) (by have := HO0.out.2.size; simp; omega) ?_)
        intro v1 W1 hown hgrow _
        have HO1 : Hid (W1.ownsRow B0 85 2 v1 1 (ecells [((i : Int), (0 : Int))]) ∧ Below B0 w W1) := ⟨hown, (HO0.out.2.alloc (by have := HO0.out.2.size; omega) _).grown hgrow (by have := HO0.out.2.size; simp; omega) (fun k hk => (HO0.out.1.lt k hk).1)⟩
        clear hown hgrow
        go_wp2_with fail
        rw [rounds_succ]
        go_wp2_with (at_builtin; refine wpList_append_own _ rfl (.tmp 29) (.tmp 33) 86 rfl B0 85 i4 (.agg #[.int .i64 0, .int .i64 0]) 2 16 Try.underlying86 hi4 hz40 hz41 hz42 rfl (by decide) _ _ _ rfl (HO1.out.1.alloc _) ⟨W1.heap.size, 0, none⟩ 1 1 [.int .i64 (i : Int), .int .i64 1] rfl rfl (row_new W1 85 _) (by intro u hu; simp at hu; rcases hu with rfl | rfl <;> rfl) (by unfold maxLen; omega) (by omega) (by have := HO1.out.2.size; simp; omega) ?_)
        intro v2 W2 hown hgrow _
        have HO2 : Hid (W2.ownsRow B0 85 2 v2 2 (ecells [((i : Int), (0 : Int)), ((i : Int), (1 : Int))]) ∧ Below B0 w W2) := ⟨hown, (HO1.out.2.alloc (by have := HO1.out.2.size; omega) _).grown hgrow (by have := HO1.out.2.size; simp; omega) (fun k hk => (HO1.out.1.lt k hk).1)⟩
        clear hown hgrow
        go_wp2_with fail
        rw [rounds_succ]
        go_wp2_with fail
        go_ret
        rw [HE2.out, ← HB0.out]
        exact ⟨_, rfl, HO2.out.1, HO2.out.2⟩
      · have HE2 : Hid (r = [((i : Int), (0 : Int))]) := by show _ = _; rw [HE.out, if_pos h1, if_neg h2]; rfl
        clear HE
        subst h1
        go_wp2_with (at_builtin; refine wpList_append_own _ rfl (.tmp 29) (.tmp 33) 86 rfl B0 85 i4 (.agg #[.int .i64 0, .int .i64 0]) 2 16 Try.underlying86 hi4 hz40 hz41 hz42 rfl (by decide) _ _ _ rfl (HO0.out.1.alloc _) ⟨w.heap.size, 0, none⟩ 1 1 [.int .i64 (i : Int), .int .i64 0] rfl rfl (row_new w 85 _) (by intro u hu; simp at hu; rcases hu with rfl | rfl <;> rfl) (by unfold maxLen; omega) (by omega) (by have := HO0.out.2.size; simp; omega) ?_)
        intro v1 W1 hown hgrow _
        have HO1 : Hid (W1.ownsRow B0 85 2 v1 1 (ecells [((i : Int), (0 : Int))]) ∧ Below B0 w W1) := ⟨hown, (HO0.out.2.alloc (by have := HO0.out.2.size; omega) _).grown hgrow (by have := HO0.out.2.size; simp; omega) (fun k hk => (HO0.out.1.lt k hk).1)⟩
        clear hown hgrow
        go_wp2_with fail
        rw [rounds_succ]
        go_wp2_with fail
        rw [rounds_succ]
        go_wp2_with fail
        go_ret
        rw [HE2.out, ← HB0.out]
        exact ⟨_, rfl, HO1.out.1, HO1.out.2⟩
    · by_cases h2 : y = n
      · have HE2 : Hid (r = [((i : Int), (1 : Int))]) := by show _ = _; rw [HE.out, if_neg h1, if_pos h2]; rfl
        clear HE
        subst h2
        go_wp2_with fail
        rw [rounds_succ]
        go_wp2_with (at_builtin; refine wpList_append_own _ rfl (.tmp 29) (.tmp 33) 86 rfl B0 85 i4 (.agg #[.int .i64 0, .int .i64 0]) 2 16 Try.underlying86 hi4 hz40 hz41 hz42 rfl (by decide) _ _ _ rfl (HO0.out.1.alloc _) ⟨w.heap.size, 0, none⟩ 1 1 [.int .i64 (i : Int), .int .i64 1] rfl rfl (row_new w 85 _) (by intro u hu; simp at hu; rcases hu with rfl | rfl <;> rfl) (by unfold maxLen; omega) (by omega) (by have := HO0.out.2.size; simp; omega) ?_)
        intro v2 W2 hown hgrow _
        have HO2 : Hid (W2.ownsRow B0 85 2 v2 1 (ecells [((i : Int), (1 : Int))]) ∧ Below B0 w W2) := ⟨hown, (HO0.out.2.alloc (by have := HO0.out.2.size; omega) _).grown hgrow (by have := HO0.out.2.size; simp; omega) (fun k hk => (HO0.out.1.lt k hk).1)⟩
        clear hown hgrow
        go_wp2_with fail
        rw [rounds_succ]
        go_wp2_with fail
        go_ret
        rw [HE2.out, ← HB0.out]
        exact ⟨_, rfl, HO2.out.1, HO2.out.2⟩
      · have HE2 : Hid (r = []) := by show _ = _; rw [HE.out, if_neg h1, if_neg h2]; rfl
        clear HE
        go_wp2_with fail
        rw [rounds_succ]
        go_wp2_with fail
        rw [rounds_succ]
        go_wp2_with fail
        go_ret
        rw [HE2.out, ← HB0.out]
        exact ⟨_, rfl, HO0.out.1, HO0.out.2⟩

end Go.Proofs.Ytifcgkpannlnnaa
