/- Contracts: across. -/
import Derived.Test.YtifcgkpannlnnaaG7
import Derived.Laws.StructEq
namespace Go.Proofs.Ytifcgkpannlnnaa
open Go.RowKit Fl
set_option maxRecDepth 100000

theorem eql_end (a b c d : Int) (w : World) : (binOp .eql 85 (.agg #[.int .i64 a, .int .i64 b]) (.agg #[.int .i64 c, .int .i64 d])).run Try.prog w = .ok (.bool (a == c && b == d)) w := by
  rw [run_eql_struct, run_equalIn_struct w 9999 85 _ _ (by kernel_rfl) (by kernel_rfl)]
  simp [Program.fieldsOf, Try.underlying85, go_sem]
  by_cases h : a = c
  · by_cases h2 : b = d <;> simp [h, h2]
  · simp [h]

/-- The other one of two ends. -/
def acrossL (es : List (Int × Int)) (e : Int × Int) : List (Int × Int) := match es with
  | [a, b] => if a = e then [b] else [a]
  | _ => []

theorem Prs.two {w : World} {D c b o : Nat} {cur : Array Value} {fr : Nat × Nat} {x y : Int × Int} (hb : b < D) (hc : 2 ≤ c) (hh : w.heap[b]? = some (.cells cur 85 fr)) (h : ∀ j (h : j < [x, y].length), cur[o + j * 2]? = some (.int .i64 [x, y][j].1) ∧ cur[o + j * 2 + 1]? = some (.int .i64 [x, y][j].2)) :
    Prs w D (.slice (some ⟨b, o, none⟩) 1 c) [x] ∧ Prs w D (.slice (some ⟨b, o + 2, none⟩) 1 (c - 1)) [y] := by
  have h0 := h 0 (by simp); have h1 := h 1 (by simp)
  simp only [List.getElem_cons_zero, List.getElem_cons_succ] at h0 h1
  refine ⟨⟨_, _, rfl, ⟨(fun e => by cases e), by simp; omega⟩, fun _ => ⟨b, o, cur, fr, rfl, hb, hh, fun j hj => ?_⟩⟩, ⟨_, _, rfl, ⟨(fun e => by cases e), by simp; omega⟩, fun _ => ⟨b, o + 2, cur, fr, rfl, hb, hh, fun j hj => ?_⟩⟩⟩
  · have : j = 0 := by simp at hj; exact hj
    subst this; exact h0
  · have : j = 0 := by simp at hj; exact hj
    subst this; exact h1

set_option maxHeartbeats 2000000 in
theorem across_any (w : World) (D : Nat) (v : Value) (L : Lay) (s k n : Int) (h : IsGr w D v L) (hD : D ≤ w.heap.size) (hL : Fits L) :
    Calls Try.prog 75 #[v, .agg #[.int .i64 s, .int .i64 k], .int .i64 n] w (RetEnds (acrossL (endsL L.secs n) (s, k)) w) := by
  have hb0 := (Below.refl w.heap.size w).alloc (Nat.le_refl _) (.cells #[.int .i64 s, .int .i64 k] 85)
  have HI := Lib.hid (h.keep hb0 hD)
  have HB0 := Lib.hid hb0
  have HRW := Lib.hid (Row.new w 85 #[.int .i64 s, .int .i64 k])
  obtain ⟨g, vS, vQ, vP, rfl, -⟩ := h
  have hD1 : D ≤ (w.alloc (.cells #[.int .i64 s, .int .i64 k] 85)).heap.size := by simp; omega
  clear hb0
  go_enter Try.func75, Try.ntmps75
  go_upto_region 1 with (fail)
  obtain ⟨n0, hn0⟩ : ∃ n, n = w.heap.size := ⟨_, rfl⟩
  rw [← hn0] at HRW HB0 ⊢
  have HN0 := Lib.hid hn0
  clear hn0 hD
  generalize w.alloc (.cells #[.int .i64 s, .int .i64 k] 85) = W0 at *
  go_wp2_with fail
  refine (ends_any W0 D _ L n HI.out hD1 hL).mono ?_; rintro e w1 ⟨v1, rfl, ho1, hb1⟩
  obtain ⟨A1, c1, hv1⟩ := own_slice ho1
  subst hv1
  have hcap := own_cap ho1
  have HP := Lib.hid (Prs.of_own ho1)
  have HB1 : Hid (Below n0 w w1) := HB0.out.trans (hb1.mono (by have := HRW.out.lt; omega))
  have HR1 := Lib.hid (Below.row hb1 HRW.out HRW.out.lt)
  clear ho1 hb1
  generalize endsL L.secs n = es at *
  by_cases hl : es.length = 2
  · match es, hl with
    | [x, y], _ =>
      obtain ⟨A', c', hv, -, hx⟩ := HP.out
      injection hv with q1 q2 q3
      subst q1 q3
      obtain ⟨b, o, cur, fr, hA, hb, hh, hc⟩ := hx (by simp)
      subst hA
      simp only [List.length_cons, List.length_nil, Nat.zero_add] at hcap HP ⊢
      have HT := Lib.hid (Prs.two hb hcap hh hc)
      have h0 := hc 0 (by simp)
      simp only [List.getElem_cons_zero, Nat.zero_mul, Nat.add_zero] at h0
      obtain ⟨k0, k1⟩ := h0
      have g0 : w1.cell? ⟨b, o, none⟩ = some (.int .i64 x.1) := by simp [World.cell?, hh, k0]
      have g1 : w1.cell? ⟨b, o + 1, none⟩ = some (.int .i64 x.2) := by simp [World.cell?, hh, k1]
      have e0 := HR1.out.cell 0; have e1 := HR1.out.cell 1
      simp only [List.getElem?_toArray, List.getElem?_cons_zero, List.getElem?_cons_succ] at e0 e1
      have HE : Hid (acrossL [x, y] (s, k) = if x = (s, k) then [y] else [x]) := rfl
      generalize acrossL [x, y] (s, k) = r at *
      clear hc hx HP k0 k1 hh
      obtain ⟨x0, x1⟩ := x
      simp only at g0 g1
      have qe := eql_end x0 x1 s k
      go_upto_region 4 with (fail)
      by_cases hxe : x0 = s ∧ x1 = k
      · obtain ⟨h1, h2⟩ := hxe
        have HE2 : Hid (r = [y]) := by show _ = _; rw [HE.out, if_pos (by rw [h1, h2])]
        have hq : (x0 == s && x1 == k) = true := by rw [h1, h2]; simp
        rw [hq] at qe
        clear HE h1 h2 hq
        go_quiet (fail)
        clear qe g0 g1 e0 e1
        go_wp2_with fail
        go_ret
        rw [HE2.out]
        exact ⟨_, rfl, HT.out.2.mono (Nat.le_refl _) (fun _ _ => rfl), by rw [← HN0.out]; exact ⟨HB1.out.os, HB1.out.tape, HB1.out.output, HB1.out.size, HB1.out.block⟩⟩
      · have HE2 : Hid (r = [(x0, x1)]) := by
          show _ = _
          rw [HE.out, if_neg (by intro e; injection e with e1 e2; exact hxe ⟨e1, e2⟩)]
        have hq : (x0 == s && x1 == k) = false := by
          rw [Bool.and_eq_false_iff]
          by_cases h1 : x0 = s
          · right; simp; exact fun h2 => hxe ⟨h1, h2⟩
          · left; simpa using h1
        rw [hq] at qe
        clear HE hxe hq
        go_quiet (fail)
        clear qe g0 g1 e0 e1
        go_wp2_with fail
        go_ret
        rw [HE2.out]
        exact ⟨_, rfl, HT.out.1.mono (Nat.le_refl _) (fun _ _ => rfl), by rw [← HN0.out]; exact ⟨HB1.out.os, HB1.out.tape, HB1.out.output, HB1.out.size, HB1.out.block⟩⟩
  · have HE : Hid (acrossL es (s, k) = []) := by
      show _ = _
      unfold acrossL
      split
      · simp at hl
      · rfl
    generalize acrossL es (s, k) = r at *
    have hl2 : ¬ (es.length : Int) = 2 := by omega
    go_wp2_with fail
    go_ret
    rw [HE.out]
    exact ⟨_, rfl, Prs.nil _ _, by rw [← HN0.out]; exact HB1.out⟩

end Go.Proofs.Ytifcgkpannlnnaa
