/- Pure: the changes, told one by one, give the states behind; what the law on the way back keeps. -/
import Derived.Test.YtblbbdkpebacbaaDoorL7
namespace Go.Proofs.YtblbbdkpebacbaaDoor
open Go.RowKit Fl
set_option maxRecDepth 100000

def foldC (x y : List Nat) (cs : List (Nat × Nat)) : List Nat := cs.foldl (fun z p => z.set p.1 (y.getD p.1 0)) x
theorem foldC_len (x y : List Nat) (cs : List (Nat × Nat)) : (foldC x y cs).length = x.length := by
  have key : ∀ (cs : List (Nat × Nat)) (z : List Nat), (cs.foldl (fun z p => z.set p.1 (y.getD p.1 0)) z).length = z.length := by
    intro cs
    induction cs with
    | nil => intro z; rfl
    | cons a r ih => intro z; rw [List.foldl_cons, ih, List.length_set]
  exact key cs x
theorem foldC_take (x y : List Nat) (cs : List (Nat × Nat)) (i : Nat) (h : i < cs.length) : foldC x y (cs.take (i + 1)) = (foldC x y (cs.take i)).set cs[i].1 (y.getD cs[i].1 0) := by
  unfold foldC; rw [List.take_succ_eq_append_getElem h, List.foldl_append]; rfl
theorem getD_le {x : List Nat} (h : ∀ v ∈ x, v ≤ 3) (i : Nat) : x.getD i 0 ≤ 3 := by
  rw [List.getD_eq_getElem?_getD]
  cases e : x[i]? with
  | none => simp
  | some v => simp only [Option.getD_some]; exact h v (List.mem_of_getElem? e)
theorem foldC_to {x y : List Nat} (hx : ∀ v ∈ x, v ≤ 3) (hy : ∀ v ∈ y, v ≤ 3) : ∀ n, n ≤ x.length → foldC x y (chgTo x y n) = backO x y n
  | 0, _ => (backO_zero x y).symm
  | n + 1, h => by
    have ih := foldC_to hx hy n (by omega)
    rw [chgTo]
    by_cases hk : kindO (x.getD n 0) (y.getD n 0) = 0
    · rw [if_pos hk, List.append_nil, ih, backO_same x y n (by omega) (getD_le hx n) (getD_le hy n) hk]
    · rw [if_neg hk]
      unfold foldC at ih ⊢
      rw [List.foldl_append, ih]
      exact backO_set x y n
theorem foldC_full {x y : List Nat} (hl : x.length = y.length) (hx : ∀ v ∈ x, v ≤ 3) (hy : ∀ v ∈ y, v ≤ 3) : foldC x y (chgO x y) = y := by
  unfold chgO
  rw [show min x.length y.length = x.length by omega, foldC_to hx hy x.length (Nat.le_refl _), backO_full x y hl]
theorem chgO_at {x y : List Nat} (i : Nat) (h : i < (chgO x y).length) : (chgO x y)[i].1 < x.length ∧ (chgO x y)[i].1 < y.length ∧ (chgO x y)[i].2 = kindO (x.getD (chgO x y)[i].1 0) (y.getD (chgO x y)[i].1 0) := by
  have := chgTo_mem (List.getElem_mem h)
  exact ⟨by have := this.1; omega, by have := this.1; omega, this.2.1⟩
theorem chgO_rise {x y : List Nat} (i : Nat) (h : i + 1 < (chgO x y).length) : ((chgO x y)[i]'(by omega)).1 < (chgO x y)[i + 1].1 :=
  List.pairwise_iff_getElem.1 (chgTo_rise x y _) i (i + 1) (by exact Nat.lt_of_succ_lt h) h (by omega)

/-- What the law's loops keep: the states before and behind, the changes, the states told anew. -/
structure BkSt (w : World) (BZ BC : Nat) (vx vy vz vc : Value) (n l : Nat) (x y Z : List Nat) (cs : List (Nat × Nat)) (W : World) : Prop where
  bel : Below w.heap.size w W
  ox : Rd W BZ vx (bvals x)
  oy : Rd W BZ vy (bvals y)
  oz : W.ownsRow BZ 5 1 vz n (bvals Z)
  oc : W.ownsRow BC 66 2 vc l (ccells cs)
  lt : ∀ k, vz.ownBlock = some k → k < BC
  le : w.heap.size ≤ BZ
  sz : BZ ≤ W.heap.size
theorem BkSt.call {w : World} {BZ BC : Nat} {vx vy vz vc : Value} {n l : Nat} {x y Z : List Nat} {cs : List (Nat × Nat)} {W W' : World} (h : BkSt w BZ BC vx vy vz vc n l x y Z cs W) (hb : Below W.heap.size W W') : BkSt w BZ BC vx vy vz vc n l x y Z cs W' :=
  ⟨h.bel.trans (hb.mono h.bel.size), h.ox.below hb h.sz, h.oy.below hb h.sz, own_below h.oz hb, own_below h.oc hb, h.lt, h.le, Nat.le_trans h.sz hb.size⟩
theorem BkSt.put {w : World} {BZ BC : Nat} {vx vy vc : Value} {Az : Option Addr} {n l cz : Nat} {x y Z : List Nat} {cs : List (Nat × Nat)} {W : World} (h : BkSt w BZ BC vx vy (.slice Az n cz) vc n l x y Z cs W) {i : Nat} (z : Nat) (hi : i < Z.length) :
    ∃ g, Az = some ⟨g, 0, none⟩ ∧ W.cell? ⟨g, i, none⟩ = some (.int .u8 (Z.getD i 0 : Int)) ∧ W.frozen? ⟨g, i, none⟩ = false ∧ BkSt w BZ BC vx vy (.slice Az n cz) vc n l x y (Z.set i z) cs (W.setCell ⟨g, i, none⟩ (.int .u8 (z : Int))) := by
  obtain ⟨g, hA, hb, hl, hc, hf, ho⟩ := own_put h.oz i z hi
  have hbz : Below BZ W (W.setCell ⟨g, i, none⟩ (.int .u8 (z : Int))) := (Below.refl BZ W).setCell (p := ⟨g, i, none⟩) hb _
  refine ⟨g, hA, hc, hf, h.bel.trans (hbz.mono h.le), h.ox.below hbz (Nat.le_refl _), h.oy.below hbz (Nat.le_refl _), ho, ownsRow_setCell_below h.oc (a := ⟨g, i, none⟩) (h.lt g (by subst hA; rfl)) _, h.lt, h.le, Nat.le_trans h.sz hbz.size⟩
end Go.Proofs.YtblbbdkpebacbaaDoor
