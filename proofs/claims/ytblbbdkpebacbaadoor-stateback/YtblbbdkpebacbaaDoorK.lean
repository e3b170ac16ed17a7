/- Contracts: Ints, an append of ints, Back. -/
import Derived.Test.YtblbbdkpebacbaaDoorNA
import Derived.Deep.DeepCutAuto
namespace Go.Proofs.YtblbbdkpebacbaaDoor
open Go.RowKit Fl
set_option maxRecDepth 100000

theorem ivals_length (xs : List Int) : (ivals xs).length = xs.length := by simp [ivals]
theorem ivals_get (xs : List Int) (i : Nat) (h : i < xs.length) : (ivals xs)[i]? = some (.int .i64 xs[i]) := by simp [ivals, h]
def Wf (xs : List Int) : Prop := ∀ n ∈ xs, (Lit.int .i64 n).wf = true


/-- Does the search go on? -/
def seeks (i n m f : Nat) : Bool := decide (i < n) && (decide (0 < m) && decide (f = 0))
theorem seeks_iff (i n m f : Nat) : seeks i n m f = true ↔ i < n ∧ 0 < m ∧ f = 0 := by unfold seeks; simp [Bool.and_eq_true]
def RetB (b : Bool) (w : World) (e : Ending) (w' : World) : Prop := e = .returned (.bool b) ∧ ∃ n, w' = w.drewN n

theorem take_snoc_eq {α : Type} {xs ys : List α} {i : Nat} (h : xs.take i = ys.take i) (h1 : i < xs.length) (h2 : i < ys.length) (he : xs[i] = ys[i]) : xs.take (i + 1) = ys.take (i + 1) := by
  rw [List.take_succ_eq_append_getElem h1, List.take_succ_eq_append_getElem h2, h, he]

theorem ivals_app (xs ys : List Int) : ivals xs ++ ivals ys = ivals (xs ++ ys) := by simp [ivals]
theorem ivals_one (xs : List Int) : ∀ u ∈ ivals xs, u.oneCell' = true := by
  intro u hu
  simp [ivals] at hu
  obtain ⟨x, _, rfl⟩ := hu
  rfl

theorem wpList_app_rd {P : Program} {w : World} {ops : Array Oper} {rest : List Oper} {o : Oper} {a : Act} {Q : Exit → Act → World → Prop} (hgd : o.guard = none) (s x : Operand) (t : TypeId)
    (ho : o.op = .call { callee := .builtin .append, args := #[s, x], argTypes := #[t, t] })
    (base : Nat) (e : TypeId) (i : TypeInfo) (z : Value) (ht : P.underlying t = some (.slice e)) (hi : P.info? e = some i) (hz : i.zero = some z)
    (hsize : i.size = 1) (hby : i.bytes = 8) (hzs : z.cells.size = 1)
    (v : Value) (n : Nat) (xs : List Int) (hs : a.eval s = v) (hown : w.ownsRow base e 1 v n (ivals xs))
    (y : Value) (ys : List Int) (hx : a.eval x = y) (hy : Rd w w.heap.size y (ivals ys)) (h63 : n + ys.length ≤ 1000000) (hbase : base ≤ w.heap.size)
    (h : ∀ v' w', w'.ownsRow base e 1 v' (n + ys.length) (ivals (xs ++ ys)) → w.grownBy w' v.ownBlock → wpList P ops Q rest (a.put o.dst v') w') : wpList P ops Q (o :: rest) a w := by
  have hy2 := hy
  obtain ⟨A, c, rfl, ⟨h0, hc⟩, hp⟩ := hy
  rw [ivals_length] at hx hc hp hy2
  cases A with
  | none =>
    have hl : ys.length = 0 := by
      rcases Nat.eq_zero_or_pos ys.length with e0 | e0
      · exact e0
      · obtain ⟨b, o', e1, _⟩ := hp e0; cases e1
    have hys : ys = [] := List.length_eq_zero_iff.1 hl
    subst hys
    have hc0 := h0 rfl
    subst hc0
    refine wpList_append_own_none hgd s x t ho base e i 1 ht hi v n (ivals xs) hs hown hx ?_
    refine h v w (by simpa using hown) ⟨rfl, rfl, rfl, Nat.le_refl _, fun _ _ _ => rfl⟩
  | some ad =>
    refine wpList_append_own w hgd s x t ho base e i z 1 8 ht hi hz hsize hby hzs (by decide) v n (ivals xs) hs hown ad ys.length c (ivals ys) hx (by rw [ivals_length]; omega) (fun j u hu => hy2.cells j u hu) (ivals_one ys) (by unfold maxLen; omega) (by omega) hbase ?_
    intro v' w' h1 h2 _
    rw [ivals_app] at h1
    exact h v' w' h1 h2

end Go.Proofs.YtblbbdkpebacbaaDoor

namespace Go.Proofs.YtblbbdkpebacbaaDoor
open Go.RowKit Fl
set_option maxRecDepth 100000

theorem Rd.lit (w : World) (xs : List Int) (cs : Array Value) (n : Nat) (hn : xs.length = n) (hc : cs = (ivals xs).toArray) : Rd (w.alloc (.cells cs 3)) (w.alloc (.cells cs 3)).heap.size (.slice (some ⟨w.heap.size, 0, none⟩) n n) (ivals xs) := by
  subst hn hc
  refine ⟨some ⟨w.heap.size, 0, none⟩, xs.length, by simp [ivals], ⟨(fun e => by cases e), by simp [ivals]⟩, fun _ => ⟨w.heap.size, 0, rfl, by simp, fun j u hu => ?_⟩⟩
  have h := (Row.new w 3 (ivals xs).toArray).cell j
  rw [Nat.zero_add, h]
  simpa using hu
theorem wf_in {n : Int} (h0 : -9223372036854775808 ≤ n) (h1 : n ≤ 9223372036854775807) : (Lit.int .i64 n).wf = true := by
  simp only [Lit.wf, Bool.and_eq_true, decide_eq_true_eq]
  exact ⟨h0, h1⟩
theorem in_wf {n : Int} (h : (Lit.int .i64 n).wf = true) : -9223372036854775808 ≤ n ∧ n ≤ 9223372036854775807 := by
  simp only [Lit.wf, Bool.and_eq_true, decide_eq_true_eq] at h
  exact h
theorem wf_of {xs : List Int} (h : ∀ n ∈ xs, -9223372036854775808 ≤ n ∧ n ≤ 9223372036854775807) : Wf xs := fun n hn => wf_in (h n hn).1 (h n hn).2

end Go.Proofs.YtblbbdkpebacbaaDoor

namespace Go.Proofs.YtblbbdkpebacbaaDoor
open Go.RowKit Fl
set_option maxRecDepth 100000

theorem drop_rev (t : List Int) (i : Nat) (h : i < t.length) : (t.drop i).reverse = (t.drop (i + 1)).reverse ++ [t[i]] := by
  rw [List.drop_eq_getElem_cons h, List.reverse_cons]

end Go.Proofs.YtblbbdkpebacbaaDoor
