/- For GraphNeeds: bytes that came in; a slice of bools; needs in memory. -/
import Derived.Test.YtpipkbdkkbcooaaLHead2
import Derived.Test.YtpipkbdkkbcooaaPMath
namespace Go.Proofs.Ytpipkbdkkbcooaa
open Go.RowKit Fl
set_option maxRecDepth 100000

theorem arg_any {w : World} {a : Option Addr} {len cap : Nat} {zs : List Int} (h : (a = none ∧ len = 0 ∧ cap = 0 ∧ zs = []) ∨
    ∃ x, a = some x ∧ len ≤ cap ∧ cap ≤ maxLen ∧ zs.length = cap ∧ (∀ i, i < zs.length → w.cell? (x.add i) = some (.int .u8 (zs.getD i 0))) ∧ ∀ n ∈ zs, (Lit.int .u8 n).wf = true) :
    ∃ q : List Nat, q.length = len ∧ (∀ y ∈ q, y < 256) ∧ Rd w w.heap.size (.slice a len cap) (bvals q) := by
  rcases h with ⟨rfl, rfl, rfl, rfl⟩ | ⟨x, rfl, hl, _, hz, hc, hwz⟩
  · exact ⟨[], rfl, fun y hy => absurd hy (by simp), Rd.empty _ _⟩
  · exact arg_some hl hz hc hwz

theorem Try.info4n : (Try.prog.info? 4).map (fun i => (i.zero, i.size, i.bytes)) = some (some (.bool false), 1, 1) := by kernel_rfl
theorem made_bools (n : Nat) : madeCells (Value.bool false).cells (n * 1) = (cvals (List.replicate n false)).toArray := by
  apply Array.ext
  · simp [madeCells, cvals]
  · intro i h1 h2
    simp [madeCells, cvals, Value.cells, Nat.mod_one]
theorem make_bools (n : Nat) (hn : n ≤ 1000) (w : World) :
    (Instr.makeSlice 26 (.int .i64 (n : Int)) (.int .i64 (n : Int))).run Try.prog w = .ok (.slice (some ⟨w.heap.size, 0, none⟩) n n) (w.alloc (.cells (cvals (List.replicate n false)).toArray 4)) := by
  obtain ⟨i0, hi, hz0, hz1, hz2⟩ := info_parts Try.info4n
  have h := run_make (P := Try.prog) w 26 4 i0 (.bool false) Try.underlying26 hi hz0 .i64 .i64 (n : Int) (n : Int) (by omega) (Int.le_refl _) (by rw [hz2]; omega) (by omega)
  rw [hz1, Int.toNat_natCast, made_bools] at h
  exact h
theorem Rd.bools {w : World} {g : Nat} {l : List Bool} (n : Nat) (hn : l.length = n) (h : Row w g 4 (cvals l).toArray) : Rd w w.heap.size (.slice (some ⟨g, 0, none⟩) n n) (cvals l) := by
  have hl : (cvals l).length = n := by simp [cvals, hn]
  refine ⟨_, n, by rw [hl], ⟨(fun e => by cases e), by omega⟩, fun _ => ⟨g, 0, rfl, h.lt, fun j u hu => ?_⟩⟩
  rw [Nat.zero_add, h.cell j]
  simpa using hu
theorem cvals_set (l : List Bool) (q : Nat) (b : Bool) : (cvals l).toArray.setIfInBounds q (.bool b) = (cvals (l.set q b)).toArray := by
  simp [cvals, List.map_set]

theorem ncells_len (xs : List (Int × Bool)) : (ncells xs).length = xs.length * 2 := by
  induction xs with
  | nil => rfl
  | cons a r ih => simp [ncells] at ih ⊢; omega
theorem ncells_get (xs : List (Int × Bool)) : ∀ j (h : j < xs.length), (ncells xs)[j * 2]? = some (.int .i64 xs[j].1) ∧ (ncells xs)[j * 2 + 1]? = some (.bool xs[j].2) := by
  induction xs with
  | nil => intro j h; simp at h
  | cons a r ih =>
    intro j h
    have e : ncells (a :: r) = .int .i64 a.1 :: .bool a.2 :: ncells r := by simp [ncells]
    rw [e]
    cases j with
    | zero => exact ⟨rfl, rfl⟩
    | succ j =>
      have := ih j (by simpa using h)
      rw [show (j + 1) * 2 = j * 2 + 1 + 1 by omega]
      simpa using this
theorem nds_at {w : World} {B n c : Nat} {A : Option Addr} {xs : List (Int × Bool)} {t : TypeId} (h : w.ownsRow B t 2 (.slice A n c) xs.length (ncells xs)) (j : Nat) (hj : j < xs.length) :
    ∃ b o, A = some ⟨b, o, none⟩ ∧ w.cell? ⟨b, o + j * 2, none⟩ = some (.int .i64 xs[j].1) ∧ w.cell? ⟨b, o + j * 2 + 1, none⟩ = some (.bool xs[j].2) := by
  rcases h.2 with ⟨_, h0⟩ | ⟨g, cap, cur, hv, _, hh, hcap, _⟩
  · omega
  · injection hv with e1 e2 e3
    subst e1 e2
    obtain ⟨a, b⟩ := ncells_get xs j hj
    have c1 := own_cur h hh _ _ a
    have c2 := own_cur h hh _ _ b
    refine ⟨g, 0, rfl, ?_, ?_⟩
    · rw [Nat.zero_add]; simp [World.cell?, hh, c1]
    · rw [Nat.zero_add]; simp [World.cell?, hh, c2]

theorem walkGo_pos (L : Lay) (ts : List Nat) (m : Nat) : ∀ f i o e, 1 ≤ o.length → 1 ≤ (walkGo L ts m f i o e).length
  | 0, _, _, _, h => h
  | f + 1, i, o, e, h => by
    rw [walkGo]
    split
    · exact h
    · split
      · exact h
      · split
        · exact h
        · exact walkGo_pos L ts m f _ _ _ (by simp)
/-- How the points stand behind some needs. -/
def rightTo (n : Nat) (needs : List (Int × Bool)) (j : Nat) : List Bool := rightOf n (needs.take j)
theorem rightTo_succ (n : Nat) (needs : List (Int × Bool)) (j : Nat) (h : j < needs.length) : rightTo n needs (j + 1) = (rightTo n needs j).set needs[j].1.toNat needs[j].2 := by
  unfold rightTo rightOf
  rw [List.take_succ_eq_append_getElem h, List.foldl_append]; rfl
theorem rightTo_len (n : Nat) (needs : List (Int × Bool)) : ∀ j, j ≤ needs.length → (rightTo n needs j).length = n
  | 0, _ => by simp [rightTo, rightOf]
  | j + 1, h => by rw [rightTo_succ n needs j (by omega), List.length_set]; exact rightTo_len n needs j (by omega)
theorem follow_cons {L : Lay} {right : List Bool} {e : Int × Int} {n : Int} {r : List Int} (h : follow L right e (n :: r) = true) : ∃ z, nextL L e right = some (n, z) ∧ (z = 0 ∨ z = 1) ∧ follow L right (n, 1 - z) r = true := by
  rw [follow] at h
  cases hx : nextL L e right with
  | none => rw [hx] at h; simp at h
  | some x =>
    obtain ⟨x0, x1⟩ := x
    rw [hx] at h
    simp only [Bool.and_eq_true, beq_iff_eq, decide_eq_true_eq] at h
    exact ⟨x1, by rw [h.1], h.2.1, h.2.2⟩
theorem wayL_le (L : Lay) : ∀ (ns : List Int) (e : Int × Int), ((wayL L e ns).getD []).length ≤ ns.length
  | [], e => by simp [wayL]
  | n :: r, e => by
    rw [wayL]
    split
    · simp
    · rename_i i _
      have ih := wayL_le L r (n, 1 - ((aroundL L e).getD i (0, 0)).2)
      have hn : (needL L e n).length ≤ 1 := by unfold needL; split <;> simp
      cases hw : wayL L (n, 1 - ((aroundL L e).getD i (0, 0)).2) r with
      | none => simp
      | some x =>
        rw [hw] at ih
        simp only [Option.getD_some, Option.map_some, List.length_append, List.length_cons] at ih ⊢
        omega
theorem pathN_le (L : Lay) (p : List Int) : ((pathN L p).getD []).length ≤ p.length := by
  unfold pathN
  split
  · simp
  · unfold ways
    have h0 := wayL_le L (p.drop 1) (p.getD 0 0, 0)
    have h1 := wayL_le L (p.drop 1) (p.getD 0 0, 1)
    rw [List.length_drop] at h0 h1
    split
    · rename_i x hx
      rw [hx] at h0
      simp only [Option.getD_some] at h0 ⊢
      omega
    · omega
theorem GSv.set {w : World} {B nL DG : Nat} {C : Array Value} {vg : Value} {L : Lay} {W : World} (h : GSv w B nL DG C vg L W) (p : Addr) (hp : DG ≤ p.block) (u : Value) : GSv w B nL DG C vg L (W.setCell p u) := h.step (X := DG) ((Below.refl DG W).setCell (p := p) hp u) (Nat.le_refl _)

end Go.Proofs.Ytpipkbdkkbcooaa
