/- Contracts: Near. -/
import Derived.Test.YtifcgkpannlnnaaG10
namespace Go.Proofs.Ytifcgkpannlnnaa
open Go.RowKit Fl
set_option maxRecDepth 100000

theorem Try.info3n : (Try.prog.info? 3).map (fun i => (i.zero, i.size, i.bytes)) = some (some (.int .i64 0), 1, 8) := by kernel_rfl

theorem throughL_le (ss : List (Int × Int × Int)) (p : Int × Int × Int × Int) (f : Int) (a b : Int) : (throughL ss p f [a, b]).length ≤ 2 := by
  unfold throughL
  split
  · exact ones_le ss p.1 [a, b]
  · split
    · have := oneL_le ss p.2.1 p.1; omega
    · simp
theorem acrossL_le (es : List (Int × Int)) (e : Int × Int) : (acrossL es e).length ≤ 1 := by
  unfold acrossL
  split
  · split <;> simp
  · simp
theorem aroundL_le (L : Lay) (e : Int × Int) : (aroundL L e).length ≤ 2 := by
  unfold aroundL
  split
  · simp
  · split
    · exact throughL_le _ _ _ _ _
    · have := acrossL_le (endsL L.secs ‹Int›) e; omega

def nearTo (L : Lay) (s : Int) : Nat → List Int
  | 0 => []
  | i + 1 => nearTo L s i ++ (aroundL L (s, (i : Int))).map (·.1)
theorem nearTo_le (L : Lay) (s : Int) : ∀ i, (nearTo L s i).length ≤ 2 * i
  | 0 => by simp [nearTo]
  | i + 1 => by have := nearTo_le L s i; have := aroundL_le L (s, (i : Int)); simp only [nearTo, List.length_append, List.length_map]; omega
/-- All sections that join one. -/
def nearL (L : Lay) (s : Int) : List Int := riseL (nearTo L s 2)

theorem firsts_take (xs : List (Int × Int)) (j : Nat) (h : j < xs.length) : (xs.take j).map (·.1) ++ [xs[j].1] = (xs.take (j + 1)).map (·.1) := by
  rw [List.take_succ_eq_append_getElem h, List.map_append]; rfl

end Go.Proofs.Ytifcgkpannlnnaa
