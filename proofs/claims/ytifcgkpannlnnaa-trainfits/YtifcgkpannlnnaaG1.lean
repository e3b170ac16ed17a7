/- Contracts: has, Len, endsOf. -/
import Derived.Test.YtifcgkpannlnnaaGMath
namespace Go.Proofs.Ytifcgkpannlnnaa
open Go.RowKit Fl
set_option maxRecDepth 100000

theorem Try.info85 : (Try.prog.info? 85).map (fun i => (i.zero, i.size, i.bytes)) = some (some (.agg #[.int .i64 0, .int .i64 0]), 2, 16) := by kernel_rfl

theorem Gr.secs {w : World} {D g : Nat} {vS vQ vP : Value} {L : Lay} (h : Gr w D g vS vQ vP L) : ∃ A c, vS = .slice A L.secs.length c := by
  obtain ⟨A, c, hv, _⟩ := h.s; exact ⟨A, c, hv⟩

set_option maxHeartbeats 1000000 in
theorem has_any (w : World) (D : Nat) (v : Value) (L : Lay) (s : Int) (h : IsGr w D v L) (hL : Fits L) :
    Calls Try.prog 48 #[v, .int .i64 s] w fun e w' => e = .returned (.bool (hasB L.secs s)) ∧ w = w' := by
  obtain ⟨g, vS, vQ, vP, rfl, hg⟩ := h
  obtain ⟨A, c, rfl⟩ := hg.secs
  have f0 := hg.row.cell 0
  simp only [List.getElem?_toArray, List.getElem?_cons_zero] at f0
  have hs := hL.s
  have HF : Hid ((decide (0 ≤ s) && decide (s < (L.secs.length : Int))) = hasB L.secs s) := rfl
  clear hg hL
  generalize L.secs.length = n at *
  generalize hasB L.secs s = B at *
  by_cases h0 : 0 ≤ s
  · by_cases h1 : s < (n : Int)
    · have HB : Hid (true = B) := by have := HF.out; rw [decide_eq_true h0, decide_eq_true h1] at this; exact this
      clear HF
      go_enter Try.func48, Try.ntmps48
      go_wp2_with fail
      go_ret
      exact ⟨ret_bool HB.out, rfl⟩
    · have HB : Hid (false = B) := by have := HF.out; rw [decide_eq_true h0, decide_eq_false h1] at this; exact this
      clear HF
      go_enter Try.func48, Try.ntmps48
      go_wp2_with fail
      go_ret
      exact ⟨ret_bool HB.out, rfl⟩
  · have HB : Hid (false = B) := by have := HF.out; rw [decide_eq_false h0] at this; exact this
    clear HF
    go_enter Try.func48, Try.ntmps48
    go_wp2_with fail
    go_ret
    exact ⟨ret_bool HB.out, rfl⟩

theorem has_nil (w : World) (s : Int) : Calls Try.prog 48 #[.pointer none, .int .i64 s] w fun e w' => e = .returned (.bool false) ∧ w = w' := by
  go_enter Try.func48, Try.ntmps48
  go_wp2_with fail
  go_ret
  exact ⟨rfl, rfl⟩

theorem hasB_nat {ss : List (Int × Int × Int)} {s : Int} (h : hasB ss s = true) : ∃ i : Nat, s = (i : Int) ∧ i < ss.length := by
  unfold hasB at h
  simp at h
  exact ⟨s.toNat, by omega, by omega⟩

/-- A section's length. -/
def lenL (ss : List (Int × Int × Int)) (s : Int) : Int := if hasB ss s then (ss.getD s.toNat (0, 0, 0)).1 else 0

end Go.Proofs.Ytifcgkpannlnnaa
