/- Contracts of state: Changes; of the document: Same. -/
import Derived.Test.YtblbbdkpebacbaaDoorA4
import Derived.BigQuiet
namespace Go.Proofs.YtblbbdkpebacbaaDoor
open Go.RowKit Fl
set_option maxRecDepth 100000

theorem Tryd.info66n : (Tryd.prog.info? 66).map (fun i => (i.zero, i.size, i.bytes)) = some (some (.agg #[.int .i64 0, .int .u8 0]), 2, 16) := by kernel_rfl
def ccells (xs : List (Nat × Nat)) : List Value := xs.flatMap fun p => [.int .i64 (p.1 : Int), .int .u8 (p.2 : Int)]
theorem ccells_len (xs : List (Nat × Nat)) : (ccells xs).length = xs.length * 2 := by
  unfold ccells; induction xs with
  | nil => rfl
  | cons a r ih => simp only [List.flatMap_cons, List.length_append, ih, List.length_cons, List.length_nil]; omega
theorem ccells_app (xs ys : List (Nat × Nat)) : ccells xs ++ ccells ys = ccells (xs ++ ys) := by simp [ccells]
theorem ccells_get (xs : List (Nat × Nat)) : ∀ j (h : j < xs.length), (ccells xs)[j * 2]? = some (.int .i64 (xs[j].1 : Int)) ∧ (ccells xs)[j * 2 + 1]? = some (.int .u8 (xs[j].2 : Int)) := by
  induction xs with
  | nil => intro j h; simp at h
  | cons a r ih =>
    intro j h
    have e : ccells (a :: r) = .int .i64 (a.1 : Int) :: .int .u8 (a.2 : Int) :: ccells r := by simp [ccells]
    cases j with
    | zero => rw [e]; simp
    | succ j =>
      rw [e]
      obtain ⟨h1, h2⟩ := ih j (by simpa using h)
      rw [show (j + 1) * 2 = j * 2 + 1 + 1 by omega]
      simp only [List.getElem?_cons_succ, List.getElem_cons_succ]
      exact ⟨h1, h2⟩

/-- A slice of changes, in blocks below 'D'. -/
def Chs (w : World) (D : Nat) (v : Value) (xs : List (Nat × Nat)) : Prop :=
  ∃ (A : Option Addr) (c : Nat), v = .slice A xs.length c ∧ (0 < xs.length → ∃ b o, A = some ⟨b, o, none⟩ ∧ b < D ∧ ∀ j (h : j < xs.length), w.cell? ⟨b, o + j * 2, none⟩ = some (.int .i64 (xs[j].1 : Int)) ∧ w.cell? ⟨b, o + j * 2 + 1, none⟩ = some (.int .u8 (xs[j].2 : Int)))
theorem Chs.mono {w w' : World} {D D' : Nat} {v : Value} {xs : List (Nat × Nat)} (h : Chs w D v xs) (hD : D ≤ D') (hc : ∀ p : Addr, p.block < D → w'.cell? p = w.cell? p) : Chs w' D' v xs := by
  obtain ⟨A, c, hv, hx⟩ := h
  refine ⟨A, c, hv, fun hp => ?_⟩
  obtain ⟨b, o, hA, hb, hcell⟩ := hx hp
  exact ⟨b, o, hA, by omega, fun j hj => ⟨(hc _ hb).trans (hcell j hj).1, (hc _ hb).trans (hcell j hj).2⟩⟩
theorem Chs.up {w w' : World} {v : Value} {xs : List (Nat × Nat)} (h : Chs w w.heap.size v xs) (hb : Below w.heap.size w w') : Chs w' w'.heap.size v xs := h.mono hb.size fun _ hp => hb.cell hp
theorem Chs.of_own {w : World} {B n : Nat} {t : TypeId} {v : Value} {xs : List (Nat × Nat)} (h : w.ownsRow B t 2 v n (ccells xs)) : Chs w w.heap.size v xs := by
  have hn : xs.length = n := by have := h.1; rw [ccells_len] at this; omega
  subst hn
  rcases h.2 with ⟨rfl, h0⟩ | ⟨g, cap, cur, hv, _, hh, hcap, _⟩
  · exact ⟨none, 0, by rw [h0], fun hp => by omega⟩
  · subst hv
    refine ⟨_, _, rfl, fun _ => ⟨g, 0, rfl, heap_lt hh, fun j hj => ?_⟩⟩
    obtain ⟨a, b⟩ := ccells_get xs j hj
    rw [Nat.zero_add]
    exact ⟨by rw [h.cellAt _ (by omega)]; exact a, by rw [h.cellAt _ (by omega)]; exact b⟩
theorem Chs.at {w : World} {D n c : Nat} {A : Option Addr} {xs : List (Nat × Nat)} (h : Chs w D (.slice A n c) xs) (j : Nat) (hj : j < xs.length) : ∃ b o, A = some ⟨b, o, none⟩ ∧ b < D ∧ w.cell? ⟨b, o + j * 2, none⟩ = some (.int .i64 (xs[j].1 : Int)) ∧ w.cell? ⟨b, o + j * 2 + 1, none⟩ = some (.int .u8 (xs[j].2 : Int)) := by
  obtain ⟨A', c', hv, hx⟩ := h
  injection hv with e1 e2 e3
  subst e1 e3
  obtain ⟨b, o, hA, hb, hc⟩ := hx (by omega)
  exact ⟨b, o, hA, hb, (hc j hj).1, (hc j hj).2⟩

theorem neq_chg (a b : Int) (w : World) : (binOp .neq 66 (.agg #[.int .i64 a, .int .u8 b]) (.agg #[.int .i64 a, .int .u8 b])).run Tryd.prog w = .ok (.bool false) w := by
  rw [run_neq_struct, run_equalIn_struct w 9999 66 _ _ (by kernel_rfl) (by kernel_rfl)]
  simp [Program.fieldsOf, Tryd.underlying66, go_sem]

set_option maxHeartbeats 2000000 in
/-- The document's Same: of two lists that are one. -/
theorem same_true (w : World) (D : Nat) (va vb : Value) (xs : List (Nat × Nat)) (ha : Chs w D va xs) (hb : Chs w D vb xs) (hl : xs.length ≤ 1000) :
    Calls Tryd.prog 25 #[va, vb] w fun e w' => e = .returned (.bool true) ∧ ∃ n, w' = w.drewN n := by
  have HA := Lib.hid ha; have HB := Lib.hid hb
  obtain ⟨A, c, rfl, -⟩ := ha
  obtain ⟨A', c', rfl, -⟩ := hb
  obtain ⟨n, hn⟩ : ∃ n, xs.length = n := ⟨_, rfl⟩
  have HN := Lib.hid hn
  rw [hn] at HA HB hl ⊢
  clear hn
  go_enter Tryd.func25, Tryd.ntmps25
  go_wp2_with fail
  go_loopw [5] (fun t wr => ∃ i : Nat, i ≤ n ∧ t = .int .i64 i ∧ ∃ m, wr = w.drewN m) (fun t _ => n - (intOf t).toNat)
  case atStart => exact ⟨0, Nat.zero_le _, rfl, 0, rfl⟩
  case round =>
    obtain ⟨i, hi, rfl, m, rfl⟩ := hrel
    by_cases hlt : i < n
    · have hli : (i : Int) < (n : Int) := by omega
      have hix : i < xs.length := by have := HN.out; omega
      obtain ⟨b, o, hA, _, k1, k2⟩ := HA.out.at i hix
      obtain ⟨b', o', hA', _, k3, k4⟩ := HB.out.at i hix
      subst hA hA'
      generalize xs[i] = x at *
      obtain ⟨x0, x1⟩ := x
      simp only at k1 k2 k3 k4
      have qe := neq_chg (x0 : Int) (x1 : Int)
      go_upto_region 6 with (fail)
      go_quiet (fail)
      go_wp2_with fail
      go_roundw
      case rel => exact ⟨i + 1, by omega, by go_num, _, rfl⟩
      case measure => simp [intOf]; omega
    · have hli : ¬ (i : Int) < (n : Int) := by omega
      go_wp2_with fail
      go_ret
      exact ⟨rfl, m, rfl⟩

theorem KD.drewN {w : World} (h : KD w) (n : Nat) : KD (w.drewN n) := ⟨h.pos, h.cell⟩
def RetChs (xs : List (Nat × Nat)) (w : World) (e : Ending) (w' : World) : Prop := ∃ v', e = .returned v' ∧ w'.ownsRow w.heap.size 66 2 v' xs.length (ccells xs) ∧ Below w.heap.size w w'
theorem two_new (w : World) (t : TypeId) (x y : Value) : ∀ j u, [x, y][j]? = some u → (w.alloc (.cells #[x, y] t)).cell? ((⟨w.heap.size, 0, none⟩ : Addr).add j) = some u := by
  intro j u hj
  match j, hj with
  | 0, hj => simp at hj; subst hj; simp [Addr.add]
  | 1, hj => simp at hj; subst hj; simp [Addr.add]
theorem two_cell {x y : Value} (hx : x.oneCell' = true) (hy : y.oneCell' = true) : ∀ u ∈ [x, y], u.oneCell' = true := by
  intro u hu; simp at hu; rcases hu with rfl | rfl <;> assumption

/-- What Changes' loop keeps. -/
structure ChSt (w : World) (v : Value) (x y : List Nat) (i : Nat) (W : World) : Prop where
  own : W.ownsRow w.heap.size 66 2 v (chgTo x y i).length (ccells (chgTo x y i))
  bel : Below w.heap.size w W
theorem ChSt.call {w : World} {v : Value} {x y : List Nat} {i : Nat} {W W' : World} (h : ChSt w v x y i W) (hb : Below W.heap.size W W') : ChSt w v x y i W' :=
  ⟨own_below h.own hb, h.bel.trans (hb.mono h.bel.size)⟩
theorem ChSt.skip {w : World} {v : Value} {x y : List Nat} {i : Nat} {W : World} (h : ChSt w v x y i W) (hk : kindO (x.getD i 0) (y.getD i 0) = 0) : ChSt w v x y (i + 1) W := by
  have e : chgTo x y (i + 1) = chgTo x y i := by rw [chgTo, if_pos hk, List.append_nil]
  exact ⟨by rw [e]; exact h.own, h.bel⟩
theorem ChSt.put {w : World} {v v' : Value} {x y : List Nat} {i k n : Nat} {W W' : World} (h : ChSt w v x y i W) (hk : kindO (x.getD i 0) (y.getD i 0) = k) (h0 : k ≠ 0) (hn : n = (chgTo x y i).length + 1)
    (hown : W'.ownsRow w.heap.size 66 2 v' n (ccells (chgTo x y i) ++ [.int .i64 (i : Int), .int .u8 (k : Int)])) (hg : (W.alloc (.cells #[.int .i64 (i : Int), .int .u8 (k : Int)] 66)).grownBy W' v.ownBlock) : ChSt w v' x y (i + 1) W' := by
  have e : chgTo x y (i + 1) = chgTo x y i ++ [(i, k)] := by rw [chgTo, hk, if_neg h0]
  have hs := h.bel.size
  have hba : Below w.heap.size w (W.alloc (.cells #[.int .i64 (i : Int), .int .u8 (k : Int)] 66)) := h.bel.alloc hs _
  refine ⟨?_, hba.grown hg (by have := hba.size; omega) (fun kk hk => (h.own.lt kk hk).1)⟩
  rw [e, ← ccells_app, List.length_append, List.length_singleton, ← hn]
  exact hown
end Go.Proofs.YtblbbdkpebacbaaDoor
