/- Contracts: node. -/
import Derived.Test.YtifcgkpannlnnaaG3
namespace Go.Proofs.Ytifcgkpannlnnaa
open Go.RowKit Fl
set_option maxRecDepth 100000

/-- The node of an end, if there is such an end. -/
def nodeL (ss : List (Int × Int × Int)) (e : Int × Int) : Option Int :=
  if hasB ss e.1 then (if e.2 = 0 then some (ss.getD e.1.toNat (0, 0, 0)).2.1 else if e.2 = 1 then some (ss.getD e.1.toNat (0, 0, 0)).2.2 else none) else none

def RetNode (o : Option Int) (w : World) (e : Ending) (w' : World) : Prop := e = .returned (.tuple #[.int .i64 (o.getD 0), .bool o.isSome]) ∧ Below w.heap.size w w'

set_option maxHeartbeats 2000000 in
theorem node_any (w : World) (D : Nat) (v : Value) (L : Lay) (s k : Int) (h : IsGr w D v L) (hD : D ≤ w.heap.size) (hL : Fits L) :
    Calls Try.prog 72 #[v, .agg #[.int .i64 s, .int .i64 k]] w (RetNode (nodeL L.secs (s, k)) w) := by
  have hb0 := (Below.refl w.heap.size w).alloc (Nat.le_refl _) (.cells #[.int .i64 s, .int .i64 k] 85)
  have HI := Lib.hid (h.keep hb0 hD)
  have HBW0 := Lib.hid hb0
  obtain ⟨g, vS, vQ, vP, rfl, hg⟩ := h
  have HL := Lib.hid hL
  have hs := hL.s
  clear hb0 hL
  cases hb : hasB L.secs s with
  | false =>
    have HB := Lib.hid hb
    have HE : Hid (nodeL L.secs (s, k) = none) := by show _ = _; unfold nodeL; simp only [hb]; rfl
    generalize nodeL L.secs (s, k) = r at *
    clear hg hb
    go_enter Try.func72, Try.ntmps72
    go_wp2_with fail
    refine (has_any _ D _ L s HI.out HL.out).mono ?_; rintro e w' ⟨rfl, rfl⟩
    rw [HB.out]
    go_wp2_with fail
    go_ret2
    rw [HE.out]
    exact ⟨rfl, HBW0.out⟩
  | true =>
    obtain ⟨i, rfl, hi⟩ := hasB_nat hb
    have HB := Lib.hid hb
    obtain ⟨A, c, rfl⟩ := hg.secs
    have hgd : g < w.heap.size := Nat.lt_of_lt_of_le hg.lt hD
    have f0 := HI.out
    obtain ⟨g', vS', vQ', vP', e1, hg1⟩ := f0
    obtain ⟨b, o, rfl, hbD, -, c1, c2⟩ := hg.s.at i hi
    have hbw : b < w.heap.size := Nat.lt_of_lt_of_le hbD hD
    have HE : Hid (nodeL L.secs ((i : Int), k) = if k = 0 then some L.secs[i].2.1 else if k = 1 then some L.secs[i].2.2 else none) := by
      show _ = _
      unfold nodeL
      have hge : L.secs.getD i (0, 0, 0) = L.secs[i] := by simp [List.getD, hi]
      simp only [hb, Int.toNat_natCast, hge, if_true]
    obtain ⟨x, hx⟩ : ∃ x, L.secs[i].2.1 = x := ⟨_, rfl⟩
    obtain ⟨y, hy⟩ : ∃ x, L.secs[i].2.2 = x := ⟨_, rfl⟩
    rw [hx] at c1 HE
    rw [hy] at c2 HE
    clear e1 hg1 hx hy hb
    generalize nodeL L.secs ((i : Int), k) = r at *
    generalize hm : L.secs.length = m at *
    have HM := Lib.hid hm
    clear hm
    have f0 : w.cell? ⟨g, 0, none⟩ = some (.slice (some ⟨b, o, none⟩) m c) := by have := hg.row.cell 0; simpa using this
    clear hg
    have k0 := cell_alloc (o := .cells #[.int .i64 (i : Int), .int .i64 k] 85) f0
    have k1 := cell_alloc (o := .cells #[.int .i64 (i : Int), .int .i64 k] 85) c1
    have k2 := cell_alloc (o := .cells #[.int .i64 (i : Int), .int .i64 k] 85) c2
    have HRE := Lib.hid (Row.new w 85 #[.int .i64 (i : Int), .int .i64 k])
    clear f0 c1 c2
    have hi0 : (0 : Int) ≤ (i : Int) := Int.natCast_nonneg _
    have hi1 : (i : Int) < (m : Int) := by omega
    go_enter Try.func72, Try.ntmps72
    go_wp2_with fail
    refine (has_any _ D _ L (i : Int) HI.out HL.out).mono ?_; rintro e w' ⟨rfl, rfl⟩
    rw [HB.out]
    go_upto_region 3 with (fail)
    obtain ⟨n0, hn0⟩ : ∃ n, n = w.heap.size := ⟨_, rfl⟩
    rw [← hn0] at HRE HBW0 ⊢
    have HN0 := Lib.hid hn0
    clear hn0 hgd hbw hD
    generalize w.alloc (.cells #[.int .i64 (i : Int), .int .i64 k] 85) = W0 at *
    have d1 : W0.cell? ⟨g, 0, none⟩ = some (.slice (some ⟨b, o, none⟩) m c) := k0
    have d2 : W0.cell? ⟨b, o + i * 3 + 1, none⟩ = some (.int .i64 x) := k1
    have d3 : W0.cell? ⟨b, o + i * 3 + 2, none⟩ = some (.int .i64 y) := k2
    have d4 : W0.cell? ⟨n0, 0, none⟩ = some (.int .i64 (i : Int)) := by have := HRE.out.cell 0; simpa using this
    clear k0 k1 k2
    refine AnyBut.region (fun w' => w'.cell? ⟨g, 0, none⟩ = some (.slice (some ⟨b, o, none⟩) m c) ∧ w'.cell? ⟨b, o + i * 3 + 1, none⟩ = some (.int .i64 x) ∧ w'.cell? ⟨b, o + i * 3 + 2, none⟩ = some (.int .i64 y) ∧ w'.cell? ⟨n0, 0, none⟩ = some (.int .i64 (i : Int))) 10 (by kernel_rfl) ?_
    refine AnyBut.take 0 rfl (by kernel_rfl) (by kernel_rfl) (by kernel_rfl) (by kernel_rfl) (by decide) (fun _ _ _ h => h) (yields_of (by rfl) (fun w9 hS => (by obtain ⟨s1, s2, s3, s4⟩ := hS; go_simp; try rfl))) ⟨d1, d2, d3, d4⟩ ?_
    refine AnyBut.take 1 rfl (by kernel_rfl) (by kernel_rfl) (by kernel_rfl) (by kernel_rfl) (by decide) (fun _ _ _ h => h) (yields_of (by rfl) (fun w9 hS => (by obtain ⟨s1, s2, s3, s4⟩ := hS; go_simp; try rfl))) ⟨d1, d2, d3, d4⟩ ?_
    refine AnyBut.take 2 rfl (by kernel_rfl) (by kernel_rfl) (by kernel_rfl) (by kernel_rfl) (by decide) (fun _ _ _ h => h) (yields_of (by rfl) (fun w9 hS => (by obtain ⟨s1, s2, s3, s4⟩ := hS; go_simp; try rfl))) ⟨d1, d2, d3, d4⟩ ?_
    refine AnyBut.take 3 rfl (by kernel_rfl) (by kernel_rfl) (by kernel_rfl) (by kernel_rfl) (by decide) (fun _ _ _ h => h) (yields_of (by rfl) (fun w9 hS => (by obtain ⟨s1, s2, s3, s4⟩ := hS; go_simp; try rfl))) ⟨d1, d2, d3, d4⟩ ?_
    refine AnyBut.take 4 rfl (by kernel_rfl) (by kernel_rfl) (by kernel_rfl) (by kernel_rfl) (by decide) (fun _ _ _ h => h) (yields_of (by rfl) (fun w9 hS => (by obtain ⟨s1, s2, s3, s4⟩ := hS; go_simp; try rfl))) ⟨d1, d2, d3, d4⟩ ?_
    refine AnyBut.take 5 rfl (by kernel_rfl) (by kernel_rfl) (by kernel_rfl) (by kernel_rfl) (by decide) (fun _ _ _ h => h) (yields_of (by rfl) (fun w9 hS => (by obtain ⟨s1, s2, s3, s4⟩ := hS; go_simp; try rfl))) ⟨d1, d2, d3, d4⟩ ?_
    refine AnyBut.take 6 rfl (by kernel_rfl) (by kernel_rfl) (by kernel_rfl) (by kernel_rfl) (by decide) (fun _ _ _ h => h) (yields_of (by rfl) (fun w9 hS => (by obtain ⟨s1, s2, s3, s4⟩ := hS; go_simp; try rfl))) ⟨d1, d2, d3, d4⟩ ?_
    refine AnyBut.take 7 rfl (by kernel_rfl) (by kernel_rfl) (by kernel_rfl) (by kernel_rfl) (by decide) (fun _ _ _ h => h) (yields_of (by rfl) (fun w9 hS => (by obtain ⟨s1, s2, s3, s4⟩ := hS; go_simp; try rfl))) ⟨d1, d2, d3, d4⟩ ?_
    refine AnyBut.take 8 rfl (by kernel_rfl) (by kernel_rfl) (by kernel_rfl) (by kernel_rfl) (by decide) (fun _ _ _ h => h) (yields_of (by rfl) (fun w9 hS => (by obtain ⟨s1, s2, s3, s4⟩ := hS; go_simp; try rfl))) ⟨d1, d2, d3, d4⟩ ?_
    refine AnyBut.one 9 rfl (by kernel_rfl) (by rfl) ?_
    go_simp
    refine ⟨⟨cell_alloc d1, cell_alloc d2, cell_alloc d3, cell_alloc d4⟩, ?_⟩
    refine AnyBut.one 10 rfl (by kernel_rfl) (by rfl) ?_
    go_simp
    refine AnyBut.done (by kernel_rfl) ?_
    clear d1 d2 d3 d4 hi0 hi1
    have HBW : Hid (Below n0 w ((W0.alloc (.cells #[.int .i64 x, .int .i64 y] 78)).drew)) := ((HBW0.out.alloc (by have := HRE.out.lt; omega) _).drew)
    have r1 : Row ((W0.alloc (.cells #[.int .i64 x, .int .i64 y] 78)).drew) n0 85 #[.int .i64 (i : Int), .int .i64 k] := HRE.out.alloc _
    have r2 : Row ((W0.alloc (.cells #[.int .i64 x, .int .i64 y] 78)).drew) W0.heap.size 78 #[.int .i64 x, .int .i64 y] := Row.new W0 78 _
    generalize (W0.alloc (.cells #[.int .i64 x, .int .i64 y] 78)).drew = W1 at *
    generalize W0.heap.size = a1 at *
    have e0 := r1.cell 0; have e1 := r1.cell 1; have e2 := r2.cell 0; have e3 := r2.cell 1
    simp only [List.getElem?_toArray, List.getElem?_cons_zero, List.getElem?_cons_succ] at e0 e1 e2 e3
    clear r1 r2
    rcases (show k < 0 ∨ k = 0 ∨ k = 1 ∨ 2 ≤ k by omega) with hk | hk | hk | hk
    · have HE2 : Hid (r = none) := by show _ = _; rw [HE.out, if_neg (by omega), if_neg (by omega)]
      clear HE
      go_wp2_with fail
      go_ret2
      rw [HE2.out]
      exact ⟨rfl, by rw [← HN0.out]; exact HBW.out⟩
    · have HE2 : Hid (r = some x) := by show _ = _; rw [HE.out, if_pos hk]
      clear HE
      subst hk
      go_wp2_with fail
      go_ret2
      rw [HE2.out]
      exact ⟨rfl, by rw [← HN0.out]; exact HBW.out⟩
    · have HE2 : Hid (r = some y) := by show _ = _; rw [HE.out, if_neg (by omega), if_pos hk]
      clear HE
      subst hk
      go_wp2_with fail
      go_ret2
      rw [HE2.out]
      exact ⟨rfl, by rw [← HN0.out]; exact HBW.out⟩
    · have HE2 : Hid (r = none) := by show _ = _; rw [HE.out, if_neg (by omega), if_neg (by omega)]
      clear HE
      have hk2 : ¬ k < 0 := by omega
      go_wp2_with fail
      go_ret2
      rw [HE2.out]
      exact ⟨rfl, by rw [← HN0.out]; exact HBW.out⟩

end Go.Proofs.Ytifcgkpannlnnaa
