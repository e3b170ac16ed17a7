/- Contracts: next, saysClear, Count, Clear. -/
import Derived.Test.YtgophlafmobhfaaD1
namespace Go.Proofs.Ytgophlafmobhfaa
open Go.RowKit
set_option maxRecDepth 100000

def bvals (l : List Nat) : List Value := l.map (fun (b : Nat) => Value.int .u8 (b : Int))
theorem bvals_length (l : List Nat) : (bvals l).length = l.length := by simp [bvals]
theorem bvals_get (l : List Nat) (i : Nat) (h : i < l.length) : (bvals l)[i]? = some (.int .u8 (l[i] : Int)) := by simp [bvals, h]

/-- The count behind one step more. -/
def nextC (c : Int) (b : Bool) : Int := if b then min (c + 1) 1001 else 0
theorem nextC_in (c : Int) (b : Bool) (h0 : 0 ≤ c) : 0 ≤ nextC c b ∧ nextC c b ≤ 1001 := by
  unfold nextC; cases b <;> simp <;> omega

set_option maxHeartbeats 1000000 in
theorem next_any (w : World) (c : Int) (b : Bool) (h0 : 0 ≤ c) (h1 : c ≤ 1001) : Calls Try.prog 17 #[.int .i64 c, .bool b] w fun e w' => e = .returned (.int .i64 (nextC c b)) ∧ w = w' := by
  have hw : IntKind.i64.wrap (c + 1) = c + 1 := IntWalk.i64_in _ (by omega)
  cases b with
  | false =>
    go_enter Try.func17, Try.ntmps17
    go_wp2_with fail
    go_ret
    exact ⟨rfl, rfl⟩
  | true =>
    by_cases hc : c + 1 ≤ 1001
    · have e : nextC c true = c + 1 := by unfold nextC; simp; omega
      have hm : min (c + 1) 1001 = c + 1 := by omega
      have hd : ¬ 1001 < c + 1 := by omega
      have hd2 : ¬ 1000 < c := by omega
      rw [e]
      go_enter Try.func17, Try.ntmps17
      go_wp2_with fail
      go_ret
      exact ⟨rfl, rfl⟩
    · obtain rfl : c = 1001 := by omega
      go_enter Try.func17, Try.ntmps17
      go_wp2_with fail
      go_ret
      exact ⟨rfl, rfl⟩

/-- Does a part's detector say that it is clear? -/
def says (raw : List Nat) (i : Nat) : Bool := raw.getD i 9 == 0

set_option maxHeartbeats 1000000 in
theorem says_any (w : World) (D : Nat) (v : Value) (raw : List Nat) (i : Nat) (h : Rd w D v (bvals raw)) : Calls Try.prog 18 #[v, .int .i64 i] w fun e w' => e = .returned (.bool (says raw i)) ∧ w = w' := by
  have HR := Lib.hid h
  obtain ⟨A, c, rfl, -, -⟩ := h
  simp only [bvals_length] at *
  by_cases hi : i < raw.length
  · obtain ⟨b, o, rfl, _, h1⟩ := HR.out.at (bvals_get raw i hi)
    have e : says raw i = (raw[i] == 0) := by unfold says; simp [hi]
    rw [e]
    generalize raw[i] = x at *
    generalize raw.length = n at *
    clear HR e
    by_cases hx : x = 0
    · subst hx
      go_enter Try.func18, Try.ntmps18
      go_wp2_with fail
      go_ret
      exact ⟨rfl, rfl⟩
    · have hx1 : (x == 0) = false := by simpa using hx
      have hx2 : ((x : Int) == 0) = false := by simpa using hx
      rw [hx1]
      go_enter Try.func18, Try.ntmps18
      go_wp2_with fail
      go_ret
      exact ⟨rfl, rfl⟩
  · have e : says raw i = false := by unfold says; simp [List.getElem?_eq_none (by omega : raw.length ≤ i)]
    rw [e]
    generalize raw.length = n at *
    clear HR e
    go_enter Try.func18, Try.ntmps18
    go_wp2_with fail
    go_ret
    exact ⟨rfl, rfl⟩

/-- Counts, part by part. -/
def fvals (n : Nat) (c : Nat → Int) : List Value := (List.range n).map fun i => .int .i64 (c i)
theorem fvals_length (n : Nat) (c : Nat → Int) : (fvals n c).length = n := by simp [fvals]
theorem fvals_get (n : Nat) (c : Nat → Int) (i : Nat) (h : i < n) : (fvals n c)[i]? = some (.int .i64 (c i)) := by simp [fvals, h]
theorem fvals_set (n : Nat) (c c' : Nat → Int) (i : Nat) (x : Int) (hx : c' i = x) (hc : ∀ j, j ≠ i → c' j = c j) : (fvals n c).toArray.setIfInBounds i (.int .i64 x) = (fvals n c').toArray := by
  apply Array.ext'
  simp only [Array.toList_setIfInBounds]
  apply List.ext_getElem?
  intro j
  rw [List.getElem?_set]
  simp only [fvals_length]
  by_cases hj : j < n
  · by_cases hij : i = j
    · subst hij; simp [hj, fvals, hx]
    · simp [hij, hj, fvals, hc j (fun e => hij e.symm)]
  · by_cases hij : i = j
    · subst hij; simp [hj, fvals]
    · simp [hij, hj, fvals]

/-- A filter in memory, all of it from block 'B' on: its counts, its stay. -/
structure Fi (w : World) (B g h n : Nat) (c : Nat → Int) (s : Int) : Prop where
  lo : B ≤ g ∧ B ≤ h
  row : Row w g 43 #[.slice (some ⟨h, 0, none⟩) n n, .int .i64 s]
  cnt : Row w h 2 (fvals n c).toArray
  n16 : n ≤ 16
  stay : 0 ≤ s ∧ s ≤ 1000
  ok : ∀ i, 0 ≤ c i ∧ c i ≤ 1001

theorem Fi.kept {w w' : World} {B g h n : Nat} {c : Nat → Int} {s : Int} (f : Fi w B g h n c s) {S : List Nat} (hk : KeptL S w w') (hg : g ∉ S) (hh : h ∉ S) : Fi w' B g h n c s :=
  ⟨f.lo, hk.row f.row hg, hk.row f.cnt hh, f.n16, f.stay, f.ok⟩
theorem Fi.below {w w' : World} {B g h n : Nat} {c : Nat → Int} {s : Int} (f : Fi w B g h n c s) (hb : Below w.heap.size w w') : Fi w' B g h n c s :=
  f.kept (S := []) (KeptL.of_below hb) (by simp) (by simp)

/-- What Count tells. -/
def cntF (n : Nat) (c : Nat → Int) (p : Int) : Int := if 0 ≤ p ∧ p < n then c p.toNat else 0

set_option maxHeartbeats 1000000 in
theorem count_any (w : World) (B g h n : Nat) (c : Nat → Int) (s p : Int) (f : Fi w B g h n c s) : Calls Try.prog 13 #[.pointer (some ⟨g, 0, none⟩), .int .i64 p] w fun e w' => e = .returned (.int .i64 (cntF n c p)) ∧ w = w' := by
  have c0 := f.row.cell 0
  simp only [List.getElem?_toArray, List.getElem?_cons_zero] at c0
  by_cases h0 : p < 0
  · have e : cntF n c p = 0 := by unfold cntF; rw [if_neg (by omega)]
    rw [e]
    clear f e
    go_enter Try.func13, Try.ntmps13
    go_wp2_with fail
    go_ret
    exact ⟨rfl, rfl⟩
  · by_cases h1 : p < (n : Int)
    · obtain ⟨i, rfl⟩ : ∃ i : Nat, p = (i : Int) := ⟨p.toNat, by omega⟩
      have hi : i < n := by omega
      have e : cntF n c (i : Int) = c i := by unfold cntF; rw [if_pos (by omega)]; simp
      rw [e]
      have c1 := f.cnt.cell i
      rw [List.getElem?_toArray, fvals_get n c i hi] at c1
      clear f e h0 h1
      generalize c i = x at *
      go_enter Try.func13, Try.ntmps13
      go_wp2_with fail
      go_ret
      exact ⟨rfl, rfl⟩
    · have e : cntF n c p = 0 := by unfold cntF; rw [if_neg (by omega)]
      rw [e]
      clear f e
      have h2 : (n : Int) ≤ p := by omega
      have h3 : 0 ≤ p := by omega
      go_enter Try.func13, Try.ntmps13
      go_wp2_with fail
      go_ret
      exact ⟨rfl, rfl⟩

theorem count_nil (w : World) (p : Int) : Calls Try.prog 13 #[.pointer none, .int .i64 p] w fun e w' => e = .returned (.int .i64 0) ∧ w = w' := by
  go_enter Try.func13, Try.ntmps13
  go_wp2_with fail
  go_ret
  exact ⟨rfl, rfl⟩

def clrF (n : Nat) (c : Nat → Int) (s p : Int) : Bool := decide (s < cntF n c p)

set_option maxHeartbeats 1000000 in
theorem clear_any (w : World) (B g h n : Nat) (c : Nat → Int) (s p : Int) (f : Fi w B g h n c s) : Calls Try.prog 12 #[.pointer (some ⟨g, 0, none⟩), .int .i64 p] w (RetB (clrF n c s p) w) := by
  have c1 := f.row.cell 1
  simp only [List.getElem?_toArray, List.getElem?_cons_zero, List.getElem?_cons_succ] at c1
  have HC : Hid (∀ m, Calls Try.prog 13 #[.pointer (some ⟨g, 0, none⟩), .int .i64 p] (w.drewN m) fun e w' => e = .returned (.int .i64 (cntF n c p)) ∧ w' = w.drewN m) := fun m => (count_any _ B g h n c s p (f.below (Below.drewN (Below.refl _ _) m))).mono fun _ _ ⟨he, hw⟩ => ⟨he, hw.symm⟩
  unfold clrF
  generalize cntF n c p = x at *
  clear f
  go_enter Try.func12, Try.ntmps12
  go_wp2_with fail
  go_quiet ((go_at_call 13; exact Calls.quiet_of_same (HC.out _)))
  go_wp2_with fail
  go_ret
  exact ⟨rfl, _, rfl⟩

theorem clear_nil (w : World) (p : Int) : Calls Try.prog 12 #[.pointer none, .int .i64 p] w (RetB false w) := by
  go_enter Try.func12, Try.ntmps12
  go_wp2_with fail
  go_region
  all_goals go_wp2_with fail
  all_goals go_ret
  all_goals exact ⟨rfl, _, rfl⟩

end Go.Proofs.Ytgophlafmobhfaa
