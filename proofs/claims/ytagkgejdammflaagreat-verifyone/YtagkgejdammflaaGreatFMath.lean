/- Pure: the document's Full. -/
import Derived.Test.YtagkgejdammflaaGreatWMath
namespace Go.Proofs.YtagkgejdammflaaGreat
open Go.RowKit Fl
set_option maxRecDepth 100000

theorem walkGo_routes (L : Lay) (rs : List (List Int)) (ts : List Nat) (m : Nat) : ∀ f i o e, walkGo { L with routes := rs } ts m f i o e = walkGo L ts m f i o e
  | 0, _, _, _ => rfl
  | f + 1, i, o, e => by
    have h : ∀ e, aroundL { L with routes := rs } e = aroundL L e := fun _ => rfl
    rw [walkGo, walkGo, h]
    split
    · rfl
    · split
      · rfl
      · split
        · rfl
        · exact walkGo_routes L rs ts m f _ _ _
theorem walkL_routes (L : Lay) (rs : List (List Int)) (s k : Int) (ts : List Nat) (m : Nat) : walkL { L with routes := rs } s k ts m = walkL L s k ts m := walkGo_routes L rs ts m _ _ _ _

/-- The path that a route's numbers tell. -/
def pathOf (L : Lay) (x : List Nat) : List Int := walkL L ((x.getD 0 0 % L.secs.length : Nat) : Int) ((x.getD 0 0 / 128 : Nat) : Int) (x.drop 2) (2 + x.getD 1 0 % 5)
def fullStep (L : Lay) (rs : List (List Int)) (x : List Nat) : List (List Int) := if rs.length < 16 ∧ 2 ≤ x.length ∧ 2 ≤ (pathOf L x).length then rs ++ [pathOf L x] else rs
def fullTo (L : Lay) (xs : List (List Nat)) (i : Nat) : List (List Int) := (xs.take i).foldl (fullStep L) []
theorem fullTo_succ (L : Lay) (xs : List (List Nat)) (i : Nat) (h : i < xs.length) : fullTo L xs (i + 1) = fullStep L (fullTo L xs i) xs[i] := by
  unfold fullTo; rw [List.take_succ_eq_append_getElem h, List.foldl_append]; rfl
theorem fullStep_stop (L : Lay) (xs : List (List Nat)) : ∀ rs : List (List Int), 16 ≤ rs.length → xs.foldl (fullStep L) rs = rs := by
  induction xs with
  | nil => intro rs _; rfl
  | cons x r ih =>
    intro rs h
    have e : fullStep L rs x = rs := by unfold fullStep; rw [if_neg (by omega)]
    rw [List.foldl_cons, e]; exact ih rs h
/-- The layout of a draft, with its routes. -/
def fullL (d : Dr) : Lay := { makeL d with routes := d.routes.foldl (fullStep (makeL d)) [] }
theorem fullTo_end (d : Dr) (i : Nat) (h : d.routes.length ≤ i ∨ 16 ≤ (fullTo (makeL d) d.routes i).length) : fullTo (makeL d) d.routes i = (fullL d).routes := by
  show _ = d.routes.foldl (fullStep (makeL d)) []
  rcases h with h | h
  · unfold fullTo; rw [List.take_of_length_le h]
  · have e : d.routes = d.routes.take i ++ d.routes.drop i := (List.take_append_drop i _).symm
    rw [e, List.foldl_append, ← e]
    exact (fullStep_stop _ _ _ h).symm
theorem fullStep_le (L : Lay) (rs : List (List Int)) (x : List Nat) (h : rs.length ≤ 16) : (fullStep L rs x).length ≤ 16 := by
  unfold fullStep; split
  · rw [List.length_append, List.length_singleton]; omega
  · exact h
theorem foldl_le (L : Lay) : ∀ (xs : List (List Nat)) (rs : List (List Int)), rs.length ≤ 16 → (xs.foldl (fullStep L) rs).length ≤ 16
  | [], rs, h => h
  | x :: r, rs, h => by rw [List.foldl_cons]; exact foldl_le L r _ (fullStep_le L rs x h)
theorem fullTo_le (L : Lay) (xs : List (List Nat)) (i : Nat) : (fullTo L xs i).length ≤ 16 := foldl_le L _ _ (by simp)

theorem makeL_fits (d : Dr) : Fits (makeL d) := by
  have he := makeEnds_len d
  refine ⟨?_, ?_, ?_, ?_⟩
  · show (makeSecs d (makeEnds d) (makeEnds d).length).length ≤ 100; rw [makeSecs_len]; omega
  · have := makePoints_len d; show (makePoints d).length ≤ 100; omega
  · have := (makeParts_le d (makeEnds d).length).1; show (makeParts d (makeEnds d).length).length ≤ 100; omega
  · intro x hx
    have := ((makeParts_le d (makeEnds d).length).2 x hx).1
    omega
theorem fits_routes (d : Dr) (rs : List (List Int)) : Fits { makeL d with routes := rs } := ⟨(makeL_fits d).s, (makeL_fits d).q, (makeL_fits d).p, (makeL_fits d).r⟩
theorem fullL_fits (d : Dr) : Fits (fullL d) := fits_routes d _

/-- Bytes from a place on. -/
theorem Rd.drop2 {w : World} {B b o n c : Nat} {r : List Nat} (h : Rd w B (.slice (some ⟨b, o, none⟩) n c) (bvals r)) (h2 : 2 ≤ r.length) : Rd w B (.slice (some ⟨b, o + 2, none⟩) (r.drop 2).length (c - 2)) (bvals (r.drop 2)) := by
  obtain ⟨A', c', hv, ⟨h0, hc⟩, hx⟩ := h
  injection hv with e1 e2 e3
  subst e1 e3
  rw [bvals_length] at hc hx
  obtain ⟨b', o', hA, hb, hcc⟩ := hx (by omega)
  injection hA with hA
  injection hA with q1 q2
  subst q1 q2
  refine ⟨_, _, by rw [bvals_length], ⟨(fun e => by cases e), by rw [bvals_length]; simp; omega⟩, fun _ => ⟨b, o + 2, rfl, hb, fun j u hu => ?_⟩⟩
  have hu2 : (bvals r)[2 + j]? = some u := by
    have e : bvals (r.drop 2) = (bvals r).drop 2 := by simp [bvals]
    rw [e, List.getElem?_drop] at hu
    exact hu
  have := hcc (2 + j) u hu2
  rw [show o + 2 + j = o + (2 + j) by omega]; exact this
theorem Rd.none2 (w : World) (B : Nat) (A : Option Addr) (c : Nat) (h : A = none → c = 0) : Rd w B (.slice A ([] : List Nat).length c) (bvals []) := ⟨A, c, rfl, ⟨h, by simp [bvals]⟩, fun hp => absurd hp (by simp [bvals])⟩

end Go.Proofs.YtagkgejdammflaaGreat
