/- Pure: paths through the tracks of drafts, and what they need. -/
import Derived.Test.YtpipkbdkkbcooaaBMath
import Derived.Test.YtpipkbdkkbcooaaN5
namespace Go.Proofs.Ytpipkbdkkbcooaa
open Go.RowKit Fl
set_option maxRecDepth 100000

theorem nextL_se {L M : Lay} (h : SE L.secs M.secs) (hp : L.points = M.points) (e : Int × Int) (right : List Bool) : nextL L e right = nextL M e right := by
  unfold nextL nextEs
  rw [pointAtL_se h hp, hp, throughL_se h, aroundL_se h hp]
theorem wayL_se {L M : Lay} (h : SE L.secs M.secs) (hp : L.points = M.points) : ∀ (e : Int × Int) (ns : List Int), wayL L e ns = wayL M e ns
  | _, [] => rfl
  | e, n :: r => by
    have e1 : ∀ e n, needL L e n = needL M e n := fun e n => by unfold needL; rw [pointAtL_se h hp, hp]
    rw [wayL, wayL, aroundL_se h hp]
    split
    · rfl
    · rw [wayL_se h hp, e1]
theorem walkGo_se {L M : Lay} (h : SE L.secs M.secs) (hp : L.points = M.points) (ts : List Nat) (m : Nat) : ∀ f i o e, walkGo L ts m f i o e = walkGo M ts m f i o e
  | 0, _, _, _ => rfl
  | f + 1, i, o, e => by
    rw [walkGo, walkGo, aroundL_se h hp]
    split
    · rfl
    · split
      · rfl
      · split
        · rfl
        · exact walkGo_se h hp ts m f _ _ _

/-- A path's needs, by lists that have none twice. -/
def pathN (L : Lay) (p : List Int) : Option (List (Int × Bool)) := if p.length < 2 ∨ ¬ p.Nodup then none else ways L (p.getD 0 0) (p.drop 1)
theorem pathL_eq (L : Lay) (p : List Int) : pathL L p = pathN L p := by
  unfold pathL pathN
  have h : (p.length < 2 ∨ (riseL p).length < p.length) ↔ (p.length < 2 ∨ ¬ p.Nodup) := by
    have h1 := riseL_len p
    have h2 := riseL_le p
    constructor
    · rintro (h | h)
      · exact Or.inl h
      · exact Or.inr fun c => by have := h1.2 c; omega
    · rintro (h | h)
      · exact Or.inl h
      · right
        have : (riseL p).length ≠ p.length := fun c => h (h1.1 c)
        omega
  by_cases c : p.length < 2 ∨ ¬ p.Nodup
  · rw [if_pos c, if_pos (h.2 c)]
  · rw [if_neg c, if_neg (fun x => c (h.1 x))]
theorem pathN_se {L M : Lay} (h : SE L.secs M.secs) (hp : L.points = M.points) (p : List Int) : pathN L p = pathN M p := by
  unfold pathN ways
  rw [wayL_se h hp, wayL_se h hp]

def allW (L : Lay) (m : Nat) : Nat → List Int → Int × Int → List (List Int)
  | 0, o, _ => [o]
  | f + 1, o, e => if m ≤ o.length then [o] else o :: (aroundL L e).flatMap fun x => if o.contains x.1 then [o] else allW L m f (o ++ [x.1]) (x.1, 1 - x.2)
theorem walkGo_mem (L : Lay) (ts : List Nat) (m : Nat) : ∀ f i o e, walkGo L ts m f i o e ∈ allW L m f o e
  | 0, i, o, e => by simp [walkGo, allW]
  | f + 1, i, o, e => by
    rw [walkGo, allW]
    split
    · simp
    · split
      · simp
      · rename_i x hx
        refine List.mem_cons_of_mem _ (List.mem_flatMap.2 ⟨x, List.mem_of_getElem? hx, ?_⟩)
        split
        · simp
        · exact walkGo_mem L ts m f _ _ _

/-- How the points stand where a path's needs are met. -/
def rightOf (n : Nat) (needs : List (Int × Bool)) : List Bool := needs.foldl (fun r x => r.set x.1.toNat x.2) (List.replicate n false)
def follow (L : Lay) (right : List Bool) : Int × Int → List Int → Bool
  | _, [] => true
  | e, n :: r => match nextL L e right with
    | some x => x.1 == n && (decide (x.2 = 0 ∨ x.2 = 1) && follow L right (n, 1 - x.2) r)
    | none => false
def needsOk (L : Lay) (k : Int) (p : List Int) : Bool :=
  ((pathN L p).getD []).all (fun x => decide (0 ≤ x.1) && decide (x.1 < (L.points.length : Int))) && (follow L (rightOf L.points.length ((pathN L p).getD [])) (p.getD 0 0, k) (p.drop 1) && ((pathN L p).isSome == decide (1 < p.length)))
def walksOk (L : Lay) : Bool := (List.range L.secs.length).all fun s => [(0 : Int), 1].all fun k => (allW L 12 12 [(s : Int)] ((s : Int), k)).all fun p => needsOk L k p || decide (p ≠ p)
theorem follow_se {L M : Lay} (h : SE L.secs M.secs) (hp : L.points = M.points) (right : List Bool) : ∀ (e : Int × Int) (p : List Int), follow L right e p = follow M right e p
  | _, [] => rfl
  | e, n :: r => by
    rw [follow, follow, nextL_se h hp]
    split
    · rw [follow_se h hp right]
    · rfl
theorem needsOk_se {L M : Lay} (h : SE L.secs M.secs) (hp : L.points = M.points) (k : Int) (p : List Int) : needsOk L k p = needsOk M k p := by
  unfold needsOk
  rw [pathN_se h hp, hp, follow_se h hp]
theorem walks_shapes : ∀ f : Fin 24, walksOk (makeL (dOf f.val)) = true := by decide +kernel
theorem walks_any (d : Dr) (s : Nat) (hs : s < (fullL d).secs.length) (k : Int) (hk : k = 0 ∨ k = 1) (ts : List Nat) : needsOk (fullL d) k (walkL (fullL d) (s : Int) k ts 12) = true := by
  have h := walks_shapes ⟨d.form % 24, Nat.mod_lt _ (by decide)⟩
  have e := shape_se d
  have p := shape_pts d
  rw [needsOk_se e p]
  unfold walkL
  rw [walkGo_se e p]
  rw [e.1] at hs
  have h2 := List.all_eq_true.1 h s (List.mem_range.2 hs)
  have h3 := List.all_eq_true.1 h2 k (by rcases hk with rfl | rfl <;> simp)
  have h4 := List.all_eq_true.1 h3 _ (walkGo_mem (makeL (dOf (d.form % 24))) ts 12 12 0 [(s : Int)] ((s : Int), k))
  rw [Bool.or_eq_true] at h4
  rcases h4 with h4 | h4
  · exact h4
  · simp at h4

end Go.Proofs.Ytpipkbdkkbcooaa
