/- Pure: the tracks of drafts, by their shapes. -/
import Derived.Test.YtagkgejdammflaaGreatFMath
import Derived.Test.YtagkgejdammflaaGreatSMath
namespace Go.Proofs.YtagkgejdammflaaGreat
open Go.RowKit Fl
set_option maxRecDepth 100000

/-- Sections with the same nodes. -/
def SE (ss tt : List (Int × Int × Int)) : Prop := ss.length = tt.length ∧ ∀ i, (ss.getD i (0, 0, 0)).2 = (tt.getD i (0, 0, 0)).2
theorem endsAt_se {ss tt : List (Int × Int × Int)} (h : SE ss tt) (n : Int) (i : Nat) : endsAt ss n i = endsAt tt n i := by unfold endsAt; rw [h.2 i]
theorem endsTo_se {ss tt : List (Int × Int × Int)} (h : SE ss tt) (n : Int) : ∀ k, endsTo ss n k = endsTo tt n k
  | 0 => rfl
  | k + 1 => by rw [endsTo, endsTo, endsTo_se h n k, endsAt_se h]
theorem endsL_se {ss tt : List (Int × Int × Int)} (h : SE ss tt) (n : Int) : endsL ss n = endsL tt n := by unfold endsL; rw [h.1, endsTo_se h]
theorem hasB_se {ss tt : List (Int × Int × Int)} (h : SE ss tt) (s : Int) : hasB ss s = hasB tt s := by unfold hasB; rw [h.1]
theorem oneL_se {ss tt : List (Int × Int × Int)} (h : SE ss tt) (s n : Int) : oneL ss s n = oneL tt s n := by unfold oneL endsOfL; rw [hasB_se h, endsAt_se h]
theorem nodeL_se {ss tt : List (Int × Int × Int)} (h : SE ss tt) (e : Int × Int) : nodeL ss e = nodeL tt e := by unfold nodeL; rw [hasB_se h, h.2]
theorem throughL_se {ss tt : List (Int × Int × Int)} (h : SE ss tt) (p : Int × Int × Int × Int) (f : Int) (xs : List Int) : throughL ss p f xs = throughL tt p f xs := by
  have e : ∀ s n, oneL ss s n = oneL tt s n := oneL_se h
  unfold throughL; simp only [e]
theorem aroundL_se {L M : Lay} (h : SE L.secs M.secs) (hp : L.points = M.points) (e : Int × Int) : aroundL L e = aroundL M e := by
  unfold aroundL
  rw [nodeL_se h, hp]
  split
  · rfl
  · simp only [throughL_se h, endsL_se h]
theorem nearTo_se {L M : Lay} (h : SE L.secs M.secs) (hp : L.points = M.points) (s : Int) : ∀ i, nearTo L s i = nearTo M s i
  | 0 => rfl
  | i + 1 => by rw [nearTo, nearTo, nearTo_se h hp s i, aroundL_se h hp]
theorem nearL_se {L M : Lay} (h : SE L.secs M.secs) (hp : L.points = M.points) (s : Int) : nearL L s = nearL M s := by unfold nearL; rw [nearTo_se h hp]
theorem pointAtL_se {L M : Lay} (h : SE L.secs M.secs) (hp : L.points = M.points) (e : Int × Int) : pointAtL L e = pointAtL M e := by unfold pointAtL; rw [nodeL_se h, hp]

def dOf (f : Nat) : Dr := ⟨f, 0, 0, 0, 0, 0, 0, 0, []⟩
theorem makeEnds_shape (d : Dr) : makeEnds d = makeEnds (dOf (d.form % 24)) := by
  have h1 : d.form % 24 % 4 = d.form % 4 := by omega
  have h2 : d.form % 24 / 4 % 6 = d.form / 4 % 6 := by omega
  unfold makeEnds rowLen
  simp only [dOf, h1, h2]
theorem makePoints_shape (d : Dr) : makePoints d = makePoints (dOf (d.form % 24)) := by
  have h1 : d.form % 24 % 4 = d.form % 4 := by omega
  unfold makePoints
  simp only [dOf, h1]
theorem makeNodes_shape (d : Dr) : (makeNodes d).length = (makeNodes (dOf (d.form % 24))).length := by
  have h1 : d.form % 24 % 4 = d.form % 4 := by omega
  have h2 : d.form % 24 / 4 % 6 = d.form / 4 % 6 := by omega
  unfold makeNodes rowLen
  simp only [dOf, h1, h2]
  split <;> simp
theorem makeSecs_at (d d' : Dr) (es : List (Int × Int)) : ∀ n i, ((makeSecs d es n).getD i (0, 0, 0)).2 = ((makeSecs d' es n).getD i (0, 0, 0)).2
  | 0, i => rfl
  | n + 1, i => by
    have ih := makeSecs_at d d' es n i
    have l1 := makeSecs_len d es n
    have l2 := makeSecs_len d' es n
    simp only [makeSecs, List.getD] at ih ⊢
    rcases Nat.lt_or_ge i n with c | c
    · rw [List.getElem?_append_left (by omega), List.getElem?_append_left (by omega)]; exact ih
    · rw [List.getElem?_append_right (by omega), List.getElem?_append_right (by omega), l1, l2]
      rcases Nat.eq_zero_or_pos (i - n) with e | e
      · rw [e]; rfl
      · rw [List.getElem?_eq_none (by simp; omega), List.getElem?_eq_none (by simp; omega)]
/-- A draft's track is its shape's. -/
def shape (d : Dr) : Lay := makeL (dOf (d.form % 24))
theorem shape_se (d : Dr) : SE (fullL d).secs (shape d).secs := by
  show SE (makeSecs d (makeEnds d) (makeEnds d).length) (makeSecs (dOf (d.form % 24)) (makeEnds (dOf (d.form % 24))) (makeEnds (dOf (d.form % 24))).length)
  rw [← makeEnds_shape d]
  exact ⟨by rw [makeSecs_len, makeSecs_len], fun i => makeSecs_at _ _ _ _ _⟩
theorem shape_pts (d : Dr) : (fullL d).points = (shape d).points := makePoints_shape d

def backOk (L : Lay) : Bool := (List.range L.secs.length).all fun s => [(0 : Int), 1].all fun k => (aroundL L ((s : Int), k)).all fun x =>
  (aroundL L x).contains ((s : Int), k) && (nearTo L (s : Int) 2).contains x.1 && (nearTo L x.1 2).contains (s : Int)
theorem back_shapes : ∀ f : Fin 24, backOk (makeL (dOf f.val)) = true := by decide +kernel

theorem back_any (d : Dr) (s : Nat) (hs : s < (fullL d).secs.length) (k : Int) (hk : k = 0 ∨ k = 1) (x : Int × Int) (hx : x ∈ aroundL (fullL d) ((s : Int), k)) :
    ((s : Int), k) ∈ aroundL (fullL d) x ∧ (nearL (fullL d) (s : Int)).contains x.1 = true ∧ (nearL (fullL d) x.1).contains (s : Int) = true := by
  have h := back_shapes ⟨d.form % 24, Nat.mod_lt _ (by decide)⟩
  have e := shape_se d
  have p := shape_pts d
  unfold nearL
  rw [riseL_contains, riseL_contains]
  simp only [aroundL_se e p, nearTo_se e p] at hx ⊢
  rw [e.1] at hs
  have h2 := List.all_eq_true.1 h s (List.mem_range.2 hs)
  have h3 := List.all_eq_true.1 h2 k (by rcases hk with rfl | rfl <;> simp)
  have h4 := List.all_eq_true.1 h3 x hx
  simp only [Bool.and_eq_true] at h4
  exact ⟨by simpa [shape] using h4.1.1, h4.1.2, h4.2⟩

end Go.Proofs.YtagkgejdammflaaGreat
