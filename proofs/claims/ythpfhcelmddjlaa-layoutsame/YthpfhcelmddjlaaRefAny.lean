/- Contract: the document's Decode: any bytes, as the program's. -/
import Derived.Test.YthpfhcelmddjlaaRefMain
namespace Go.Proofs.Ythpfhcelmddjlaa
open Go.RowKit Fl
set_option maxRecDepth 100000

theorem refDecode_any (w : World) (v : Value) (q : List Nat) (h : Rd w w.heap.size v (bvals q)) (hq : ∀ x ∈ q, x < 256) (hl : q.length ≤ 4000) : Calls Try.prog 48 #[v] w (RetDec (dec q) w) := by
  have hoq : ∀ x ∈ q.take (q.length - 2), x < 256 := fun x hx => hq x (List.mem_of_mem_take hx)
  unfold dec
  by_cases h2 : q.length < 2
  · rw [if_pos h2]; exact refDecode_short w v q h hq hl h2
  · rw [if_neg h2]
    by_cases hs : sumOf (q.take (q.length - 2)) = tailNum q
    · rw [if_neg (by simpa using hs), okBL_body _ hoq]
      cases hb : begins (q.take (q.length - 2)) with
      | false => rw [if_pos rfl]; exact refDecode_form w v q h hq hl (by omega) hs hb
      | true =>
        have hlen : 2 ≤ (q.take (q.length - 2)).length := by
          unfold begins at hb
          rw [Bool.and_eq_true, decide_eq_true_eq] at hb
          exact hb.1
        rw [if_neg (by simp), behind _ hoq hlen]
        exact refDecode_main w v q h hq hl (by omega) hs hb
    · rw [if_pos (by simpa using hs)]; exact refDecode_bad w v q h hq hl (by omega) hs

end Go.Proofs.Ythpfhcelmddjlaa
