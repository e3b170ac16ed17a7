/- Contracts: has, Len, endsOf. -/
import Derived.Test.YtpipkbdkkbcooaaGMath
namespace Go.Proofs.Ytpipkbdkkbcooaa
open Go.RowKit Fl
set_option maxRecDepth 100000

theorem Try.info41 : (Try.prog.info? 41).map (fun i => (i.zero, i.size, i.bytes)) = some (some (.agg #[.int .i64 0, .int .i64 0]), 2, 16) := by kernel_rfl

theorem Gr.secs {w : World} {D g : Nat} {vS vQ vP : Value} {L : Lay} (h : Gr w D g vS vQ vP L) : ∃ A c, vS = .slice A L.secs.length c := by
  obtain ⟨A, c, hv, _⟩ := h.s; exact ⟨A, c, hv⟩

set_option maxHeartbeats 1000000 in
theorem has_any (w : World) (D : Nat) (v : Value) (L : Lay) (s : Int) (h : IsGr w D v L) (hL : Fits L) :
    Calls Try.prog 47 #[v, .int .i64 s] w fun e w' => e = .returned (.bool (hasB L.secs s)) ∧ w = w' := by
  obtain ⟨g, vS, vQ, vP, rfl, hg⟩ := h
  obtain ⟨A, c, rfl⟩ := hg.secs
  have f0 := hg.row.cell 0
  simp only [List.getElem?_toArray, List.getElem?_cons_zero] at f0
  have hs := hL.s
  have HF : Hid ((decide (0 ≤ s) && decide (s < (L.secs.length : Int))) = hasB L.secs s) := rfl
  clear hg hL
  generalize L.secs.length = n at *
  generalize hasB L.secs s = B at *
  by_cases h0 : 0 ≤ s
  · by_cases h1 : s < (n : Int)
    · have HB : Hid (true = B) := by have := HF.out; rw [decide_eq_true h0, decide_eq_true h1] at this; exact this
      clear HF
      go_enter Try.func47, Try.ntmps47
      go_wp2_with fail
      go_ret
      exact ⟨ret_bool HB.out, rfl⟩
    · have HB : Hid (false = B) := by have := HF.out; rw [decide_eq_true h0, decide_eq_false h1] at this; exact this
      clear HF
      go_enter Try.func47, Try.ntmps47
      go_wp2_with fail
      go_ret
      exact ⟨ret_bool HB.out, rfl⟩
  · have HB : Hid (false = B) := by have := HF.out; rw [decide_eq_false h0] at this; exact this
    clear HF
    go_enter Try.func47, Try.ntmps47
    go_wp2_with fail
    go_ret
    exact ⟨ret_bool HB.out, rfl⟩

theorem has_nil (w : World) (s : Int) : Calls Try.prog 47 #[.pointer none, .int .i64 s] w fun e w' => e = .returned (.bool false) ∧ w = w' := by
  go_enter Try.func47, Try.ntmps47
  go_wp2_with fail
  go_ret
  exact ⟨rfl, rfl⟩

theorem hasB_nat {ss : List (Int × Int × Int)} {s : Int} (h : hasB ss s = true) : ∃ i : Nat, s = (i : Int) ∧ i < ss.length := by
  unfold hasB at h
  simp at h
  exact ⟨s.toNat, by omega, by omega⟩

/-- A section's length. -/
def lenL (ss : List (Int × Int × Int)) (s : Int) : Int := if hasB ss s then (ss.getD s.toNat (0, 0, 0)).1 else 0

set_option maxHeartbeats 1000000 in
theorem len_any (w : World) (D : Nat) (v : Value) (L : Lay) (s : Int) (h : IsGr w D v L) (hL : Fits L) :
    Calls Try.prog 23 #[v, .int .i64 s] w fun e w' => e = .returned (.int .i64 (lenL L.secs s)) ∧ w = w' := by
  have hI := h
  obtain ⟨g, vS, vQ, vP, rfl, hg⟩ := h
  cases hb : hasB L.secs s with
  | false =>
    have HB := Lib.hid hb
    have HE : Hid (0 = lenL L.secs s) := by show _ = _; unfold lenL; rw [hb]; rfl
    generalize lenL L.secs s = r at *
    have HI := Lib.hid hI
    clear hI hg hb
    go_enter Try.func23, Try.ntmps23
    go_wp2_with fail
    refine (has_any w D _ L s HI.out hL).mono ?_; rintro e w' ⟨rfl, rfl⟩
    rw [HB.out]
    go_wp2_with fail
    go_ret
    exact ⟨ret_int HE.out, rfl⟩
  | true =>
    obtain ⟨i, rfl, hi⟩ := hasB_nat hb
    have HB := Lib.hid hb
    have HE : Hid ((L.secs.getD i (0, 0, 0)).1 = lenL L.secs (i : Int)) := by show _ = _; unfold lenL; rw [hb]; rfl
    generalize lenL L.secs (i : Int) = r at *
    have HI := Lib.hid hI
    obtain ⟨A, c, rfl⟩ := hg.secs
    have f0 := hg.row.cell 0
    simp only [List.getElem?_toArray, List.getElem?_cons_zero] at f0
    obtain ⟨b, o, rfl, -, c1, -, -⟩ := hg.s.at i hi
    have hge : L.secs.getD i (0, 0, 0) = L.secs[i] := by simp [List.getD, hi]
    rw [hge] at HE
    have hs := hL.s
    clear hI hg hb hge
    generalize L.secs[i] = z at *
    have HL := Lib.hid hL
    clear hL
    generalize hn : L.secs.length = n at *
    have HN := Lib.hid hn
    clear hn
    go_enter Try.func23, Try.ntmps23
    go_wp2_with fail
    refine (has_any w D _ L (i : Int) HI.out HL.out).mono ?_; rintro e w' ⟨rfl, rfl⟩
    rw [HB.out]
    go_wp2_with fail
    go_ret
    exact ⟨ret_int HE.out, rfl⟩

end Go.Proofs.Ytpipkbdkkbcooaa
