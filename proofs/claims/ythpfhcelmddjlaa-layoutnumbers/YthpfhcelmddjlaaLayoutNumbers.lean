/-
  PROVED: for every input the law LayoutNumbers returns true and leaves its arguments as they were: of any numbers their lowest bits are laid as the document lays them, places with any signs are read back, and what was laid is read as the document reads it. No condition.
-/
import Derived.Test.YthpfhcelmddjlaaRows
import Derived.Test.YthpfhcelmddjlaaMm
import Derived.Test.YthpfhcelmddjlaaFlip
import Derived.WalkKit
import Derived.ProofKit
import Derived.OpenShut
import Derived.ShutString
import Derived.ChangeOld
import Derived.Below
import Derived.Deep.RegionHeld3
namespace Go.Proofs.Ythpfhcelmddjlaa.layoutNumbers
open Go.ChangeShapes Go.WideShapes Go.ChangeAt Go.RowKit
open Go.ChangeMaps (open_string shut_string)
set_option linter.unusedVariables false
set_option maxRecDepth 100000

theorem own : ownKnob Try.prog.godebug = none := by kernel_rfl
theorem laidOut : laidOutB Try.prog = true := by kernel_rfl

/-- What is known of a slice of integers that came in: nil, or a row of 'cap' cells. -/
def IsRow (k : IntKind) (w : World) (a : Option Addr) (len cap : Nat) (zs : List Int) : Prop :=
  (a = none ∧ len = 0 ∧ cap = 0 ∧ zs = []) ∨
  ∃ x, a = some x ∧ len ≤ cap ∧ cap ≤ maxLen ∧ zs.length = cap ∧ (∀ i, i < zs.length → w.cell? (x.add i) = some (.int k (zs.getD i 0))) ∧ ∀ n ∈ zs, (Lit.int k n).wf = true

open Fl

theorem arg_ints {w : World} {a : Option Addr} {len cap : Nat} {zs : List Int} (h : (a = none ∧ len = 0 ∧ cap = 0 ∧ zs = []) ∨
    ∃ x, a = some x ∧ len ≤ cap ∧ cap ≤ maxLen ∧ zs.length = cap ∧ (∀ i, i < zs.length → w.cell? (x.add i) = some (.int .i64 (zs.getD i 0))) ∧ ∀ n ∈ zs, (Lit.int .i64 n).wf = true) :
    ∃ q : List Int, q.length = len ∧ Rd w w.heap.size (.slice a len cap) (ivals q) := by
  rcases h with ⟨rfl, rfl, rfl, rfl⟩ | ⟨x, rfl, hl, _, hz, hc, hwz⟩
  · exact ⟨[], rfl, Rd.empty _ _⟩
  · have hlen : (zs.take len).length = len := by simp; omega
    have hvl : (ivals (zs.take len)).length = len := by simp [ivals]; omega
    refine ⟨zs.take len, hlen, ⟨some x, cap, by rw [hvl], ⟨(fun h => by cases h), by rw [hvl]; exact hl⟩, fun hp => ?_⟩⟩
    rw [hvl] at hp
    obtain ⟨b, o, rfl, hc'⟩ := ints_at hc (by omega)
    refine ⟨b, o, rfl, cell_lt (hc' 0 (by omega)), fun j u hu => ?_⟩
    have hj : j < len := by have := (List.getElem?_eq_some_iff.1 hu).1; rw [hvl] at this; exact this
    rw [hc' j (by omega), ← hu]
    simp [ivals, List.getD, hj, show j < zs.length by omega]

theorem i32_in {n : Int} (h : (Lit.int .i32 n).wf = true) : -2147483648 ≤ n ∧ n ≤ 2147483647 := by
  simp only [Lit.wf, Bool.and_eq_true, decide_eq_true_eq] at h
  rw [show IntKind.i32.min = -2147483648 from by decide, show IntKind.i32.max = 2147483647 from by decide] at h
  exact h

theorem tmod_in (x : Int) : -1000000 ≤ x.tmod 1000001 ∧ x.tmod 1000001 ≤ 1000000 := by
  have h1 := Int.tmod_lt_of_pos x (show (0 : Int) < 1000001 by decide)
  have h2 := Int.lt_tmod_of_pos x (show (0 : Int) < 1000001 by decide)
  omega

section

variable {P : Program} {ops : Array Oper} {Q : Exit → Act → World → Prop} {md : Region.Mode} {S : World → Prop} {t : Nat}

theorem wpOp_of {i : Nat} {oi : Oper} {K : Act → World → Prop} {a : Act} {w : World} (hi : ops[i]? = some oi) (wi : Region.wanted oi (yielded ops a.tmps) = true) (h : oi.wp P a w K Q) : wpOp P ops Q i K a w := by
  unfold wpOp
  simp only [hi, wi, if_true]
  exact .inl h

/-- Any order, by what is known of what has been done: named by nothing but what is done. -/
theorem any_inv (Inv : Nat → Array Bool → Act → World → Prop) (k : Nat)
    (hend : ∀ L a w, Inv 0 L a w → AnyBut P md ops Q S t k L a w)
    (hstep : ∀ n L a w, Inv (n + 1) L a w → Region.ready md ops L ≠ [] ∧ ∀ j ∈ Region.ready md ops L, wpOp P ops Q j (fun a' w' => (j ≠ t → S w') ∧ Inv n (L.setIfInBounds j true) a' w') a w) :
    ∀ n L a w, Inv n L a w → AnyBut P md ops Q S t (n + k) L a w := by
  intro n
  induction n with
  | zero => intro L a w h; rw [Nat.zero_add]; exact hend L a w h
  | succ n ih =>
    intro L a w h
    obtain ⟨h1, h2⟩ := hstep n L a w h
    rw [show n + 1 + k = (n + k) + 1 from by omega]
    exact ⟨fun h0 => absurd h0 h1, fun j hj => wpOp_mono (fun a' w' h' => ⟨h'.1, ih _ a' w' h'.2⟩) (h2 j hj)⟩

end

/-- What is done. -/
def Lf (b7 b12 b15 b16 b22 b24 b25 b39 b40 : Bool) : Array Bool := #[true, true, true, true, true, true, true, b7, true, true, true, true, b12, true, true, b15, b16, true, true, true, true, true, b22, true, b24, b25, true, true, true, true, true, true, true, true, true, true, true, true, true, b39, b40, false]

/-- Whatever is done, unless all is: something may be done next, and only what waits for nothing. -/
def chk (ops : Array Oper) (b7 b12 b15 b16 b22 b24 b25 b39 b40 : Bool) : Bool :=
  ((b7 && b12 && b15 && b16 && b22 && b24 && b25 && b39 && b40) || !(Region.ready .any ops (Lf b7 b12 b15 b16 b22 b24 b25 b39 b40)).isEmpty) && (Region.ready .any ops (Lf b7 b12 b15 b16 b22 b24 b25 b39 b40)).all fun j =>
    (j == 7 && !b7) || (j == 12 && !b12) || (j == 15 && !b15) || (j == 16 && !b16 && b15) || (j == 22 && !b22) || (j == 24 && !b24) || (j == 25 && !b25 && b24) || (j == 39 && !b39 && b7 && b12 && b16 && b22 && b25) || (j == 40 && !b40) || (j == 41 && (b7 && b12 && b15 && b16 && b22 && b24 && b25 && b39 && b40))

/-- What an operation waits for. -/
def deps (ops : Array Oper) (j : Nat) : List Nat :=
  match ops[j]? with
  | some o => (o.after.toList.filter (Region.binds .any)).map (·.on)
  | none => []

theorem ready_iff {ops : Array Oper} {L : Array Bool} {j : Nat} : j ∈ Region.ready .any ops L ↔ L.getD j true = false ∧ (∃ o, ops[j]? = some o) ∧ ∀ i ∈ deps ops j, L.getD i false = true := by
  rw [mem_ready]
  constructor
  · rintro ⟨h1, o, ho, h2⟩
    refine ⟨h1, ⟨o, ho⟩, fun i hi => ?_⟩
    unfold deps at hi
    rw [ho] at hi
    simp only [List.mem_map, List.mem_filter] at hi
    obtain ⟨e, ⟨he, hb⟩, rfl⟩ := hi
    exact h2 e (by simpa using he) hb
  · rintro ⟨h1, ⟨o, ho⟩, h2⟩
    refine ⟨h1, o, ho, fun e he hb => h2 e.on ?_⟩
    unfold deps
    rw [ho]
    simp only [List.mem_map, List.mem_filter]
    exact ⟨e, ⟨by simpa using he, hb⟩, rfl⟩

theorem Lf_get (b7 b12 b15 b16 b22 b24 b25 b39 b40 d : Bool) : ∀ i, i < 42 → (Lf b7 b12 b15 b16 b22 b24 b25 b39 b40).getD i d = (if i = 7 then b7 else if i = 12 then b12 else if i = 15 then b15 else if i = 16 then b16 else if i = 22 then b22 else if i = 24 then b24 else if i = 25 then b25 else if i = 39 then b39 else if i = 40 then b40 else if i = 41 then false else true)
  | 0, _ => rfl
  | 1, _ => rfl
  | 2, _ => rfl
  | 3, _ => rfl
  | 4, _ => rfl
  | 5, _ => rfl
  | 6, _ => rfl
  | 7, _ => rfl
  | 8, _ => rfl
  | 9, _ => rfl
  | 10, _ => rfl
  | 11, _ => rfl
  | 12, _ => rfl
  | 13, _ => rfl
  | 14, _ => rfl
  | 15, _ => rfl
  | 16, _ => rfl
  | 17, _ => rfl
  | 18, _ => rfl
  | 19, _ => rfl
  | 20, _ => rfl
  | 21, _ => rfl
  | 22, _ => rfl
  | 23, _ => rfl
  | 24, _ => rfl
  | 25, _ => rfl
  | 26, _ => rfl
  | 27, _ => rfl
  | 28, _ => rfl
  | 29, _ => rfl
  | 30, _ => rfl
  | 31, _ => rfl
  | 32, _ => rfl
  | 33, _ => rfl
  | 34, _ => rfl
  | 35, _ => rfl
  | 36, _ => rfl
  | 37, _ => rfl
  | 38, _ => rfl
  | 39, _ => rfl
  | 40, _ => rfl
  | 41, _ => rfl
  | n + 42, h => absurd h (by omega)

def un (i : Nat) : Bool := decide (i < 42) && !(i == 7 || i == 12 || i == 15 || i == 16 || i == 22 || i == 24 || i == 25 || i == 39 || i == 40 || i == 41)

theorem Lf_un {b7 b12 b15 b16 b22 b24 b25 b39 b40 : Bool} {i : Nat} (h : un i = true) : (Lf b7 b12 b15 b16 b22 b24 b25 b39 b40).getD i false = true := by
  unfold un at h
  simp only [Bool.and_eq_true, decide_eq_true_eq, Bool.not_eq_true', Bool.or_eq_false_iff, beq_eq_false_iff_ne, ne_eq] at h
  rw [Lf_get _ _ _ _ _ _ _ _ _ _ i h.1]
  obtain ⟨-, h⟩ := h
  simp only [h, if_false]

def okOps (ops : Array Oper) : Bool :=
  decide (ops.size = 42) && ((deps ops 7).all un && ((deps ops 12).all un && ((deps ops 15).all un && (((deps ops 16).all fun i => un i || i == 15) && ((deps ops 16).contains 15 && ((deps ops 22).all un && ((deps ops 24).all un && (((deps ops 25).all fun i => un i || i == 24) && ((deps ops 25).contains 24 && (((deps ops 39).all fun i => un i || (i == 7 || i == 12 || i == 16 || i == 22 || i == 25)) && (([7, 12, 16, 22, 25].all fun i => (deps ops 39).contains i) && ((deps ops 40).all un && ([7, 12, 15, 16, 22, 24, 25, 39, 40].all fun i => (deps ops 41).contains i)))))))))))))

theorem ready_ok {ops : Array Oper} (h : okOps ops = true) (b7 b12 b15 b16 b22 b24 b25 b39 b40 : Bool) : chk ops b7 b12 b15 b16 b22 b24 b25 b39 b40 = true := by
  unfold okOps at h
  rw [Bool.and_eq_true, Bool.and_eq_true, Bool.and_eq_true, Bool.and_eq_true, Bool.and_eq_true, Bool.and_eq_true, Bool.and_eq_true, Bool.and_eq_true, Bool.and_eq_true, Bool.and_eq_true, Bool.and_eq_true, Bool.and_eq_true, Bool.and_eq_true] at h
  obtain ⟨hs, h7, h12, h15, h16, c16, h22, h24, h25, c25, h39, c39, h40, c41⟩ := h
  have hs' : ops.size = 42 := of_decide_eq_true hs
  rw [List.all_eq_true] at h7 h12 h15 h16 h22 h24 h25 h39 c39 h40 c41
  have here : ∀ j, j < 42 → ∃ o, ops[j]? = some o := fun j hj => ⟨_, Array.getElem?_eq_getElem (show j < ops.size by omega)⟩
  have some_ready : ∀ {L : Array Bool} {j : Nat}, j ∈ Region.ready .any ops L → (Region.ready .any ops L).isEmpty = false := fun hj => by
    cases hh : Region.ready .any ops _ with
    | nil => rw [hh] at hj; cases hj
    | cons _ _ => rfl
  unfold chk
  rw [Bool.and_eq_true]
  constructor
  · cases b7 with
    | false => rw [some_ready (j := 7) (ready_iff.2 ⟨rfl, here 7 (by omega), fun i hi => Lf_un (h7 i hi)⟩)]; rfl
    | true =>
    cases b12 with
    | false => rw [some_ready (j := 12) (ready_iff.2 ⟨rfl, here 12 (by omega), fun i hi => Lf_un (h12 i hi)⟩)]; rfl
    | true =>
    cases b15 with
    | false => rw [some_ready (j := 15) (ready_iff.2 ⟨rfl, here 15 (by omega), fun i hi => Lf_un (h15 i hi)⟩)]; rfl
    | true =>
    cases b16 with
    | false =>
      rw [some_ready (j := 16) (ready_iff.2 ⟨rfl, here 16 (by omega), fun i hi => by
        have h9 := h16 i hi
        rw [Bool.or_eq_true, beq_iff_eq] at h9
        rcases h9 with h9 | h9
        · exact Lf_un h9
        · rw [h9]; rfl⟩)]; rfl
    | true =>
    cases b22 with
    | false => rw [some_ready (j := 22) (ready_iff.2 ⟨rfl, here 22 (by omega), fun i hi => Lf_un (h22 i hi)⟩)]; rfl
    | true =>
    cases b24 with
    | false => rw [some_ready (j := 24) (ready_iff.2 ⟨rfl, here 24 (by omega), fun i hi => Lf_un (h24 i hi)⟩)]; rfl
    | true =>
    cases b25 with
    | false =>
      rw [some_ready (j := 25) (ready_iff.2 ⟨rfl, here 25 (by omega), fun i hi => by
        have h9 := h25 i hi
        rw [Bool.or_eq_true, beq_iff_eq] at h9
        rcases h9 with h9 | h9
        · exact Lf_un h9
        · rw [h9]; rfl⟩)]; rfl
    | true =>
    cases b40 with
    | false => rw [some_ready (j := 40) (ready_iff.2 ⟨rfl, here 40 (by omega), fun i hi => Lf_un (h40 i hi)⟩)]; cases b39 <;> rfl
    | true =>
    cases b39 with
    | false =>
      rw [some_ready (j := 39) (ready_iff.2 ⟨rfl, here 39 (by omega), fun i hi => by
        have h9 := h39 i hi
        simp only [Bool.or_eq_true, beq_iff_eq] at h9
        rcases h9 with h9 | (((h9 | h9) | h9) | h9) | h9
        · exact Lf_un h9
        all_goals rw [h9]; rfl⟩)]; rfl
    | true => rfl
  · rw [List.all_eq_true]
    intro j hj
    obtain ⟨h1, ⟨o, ho⟩, h3⟩ := ready_iff.1 hj
    have hj42 : j < 42 := by
      rcases Nat.lt_or_ge j ops.size with c | c
      · omega
      · rw [Array.getElem?_eq_none c] at ho; cases ho
    clear hj ho
    have hin : ∀ {k : Nat} {l : List Nat}, l.contains k = true → k ∈ l := fun hc => by simpa using hc
    match j, hj42, h1, h3 with
    | 0, _, h1, _ => exact absurd (show true = false from h1) (by simp)
    | 1, _, h1, _ => exact absurd (show true = false from h1) (by simp)
    | 2, _, h1, _ => exact absurd (show true = false from h1) (by simp)
    | 3, _, h1, _ => exact absurd (show true = false from h1) (by simp)
    | 4, _, h1, _ => exact absurd (show true = false from h1) (by simp)
    | 5, _, h1, _ => exact absurd (show true = false from h1) (by simp)
    | 6, _, h1, _ => exact absurd (show true = false from h1) (by simp)
    | 7, _, h1, _ => have e : b7 = false := h1; simp [e]
    | 8, _, h1, _ => exact absurd (show true = false from h1) (by simp)
    | 9, _, h1, _ => exact absurd (show true = false from h1) (by simp)
    | 10, _, h1, _ => exact absurd (show true = false from h1) (by simp)
    | 11, _, h1, _ => exact absurd (show true = false from h1) (by simp)
    | 12, _, h1, _ => have e : b12 = false := h1; simp [e]
    | 13, _, h1, _ => exact absurd (show true = false from h1) (by simp)
    | 14, _, h1, _ => exact absurd (show true = false from h1) (by simp)
    | 15, _, h1, _ => have e : b15 = false := h1; simp [e]
    | 16, _, h1, h3 => have e : b16 = false := h1; have e2 : b15 = true := h3 15 (hin c16); simp [e, e2]
    | 17, _, h1, _ => exact absurd (show true = false from h1) (by simp)
    | 18, _, h1, _ => exact absurd (show true = false from h1) (by simp)
    | 19, _, h1, _ => exact absurd (show true = false from h1) (by simp)
    | 20, _, h1, _ => exact absurd (show true = false from h1) (by simp)
    | 21, _, h1, _ => exact absurd (show true = false from h1) (by simp)
    | 22, _, h1, _ => have e : b22 = false := h1; simp [e]
    | 23, _, h1, _ => exact absurd (show true = false from h1) (by simp)
    | 24, _, h1, _ => have e : b24 = false := h1; simp [e]
    | 25, _, h1, h3 => have e : b25 = false := h1; have e2 : b24 = true := h3 24 (hin c25); simp [e, e2]
    | 26, _, h1, _ => exact absurd (show true = false from h1) (by simp)
    | 27, _, h1, _ => exact absurd (show true = false from h1) (by simp)
    | 28, _, h1, _ => exact absurd (show true = false from h1) (by simp)
    | 29, _, h1, _ => exact absurd (show true = false from h1) (by simp)
    | 30, _, h1, _ => exact absurd (show true = false from h1) (by simp)
    | 31, _, h1, _ => exact absurd (show true = false from h1) (by simp)
    | 32, _, h1, _ => exact absurd (show true = false from h1) (by simp)
    | 33, _, h1, _ => exact absurd (show true = false from h1) (by simp)
    | 34, _, h1, _ => exact absurd (show true = false from h1) (by simp)
    | 35, _, h1, _ => exact absurd (show true = false from h1) (by simp)
    | 36, _, h1, _ => exact absurd (show true = false from h1) (by simp)
    | 37, _, h1, _ => exact absurd (show true = false from h1) (by simp)
    | 38, _, h1, _ => exact absurd (show true = false from h1) (by simp)
    | 39, _, h1, h3 => have e : b39 = false := h1; have e1 : b7 = true := h3 7 (hin (c39 7 (by simp))); have e2 : b12 = true := h3 12 (hin (c39 12 (by simp))); have e3 : b16 = true := h3 16 (hin (c39 16 (by simp))); have e4 : b22 = true := h3 22 (hin (c39 22 (by simp))); have e5 : b25 = true := h3 25 (hin (c39 25 (by simp))); simp [e, e1, e2, e3, e4, e5]
    | 40, _, h1, _ => have e : b40 = false := h1; simp [e]
    | 41, _, _, h3 => have e7 : b7 = true := h3 7 (hin (c41 7 (by simp))); have e12 : b12 = true := h3 12 (hin (c41 12 (by simp))); have e15 : b15 = true := h3 15 (hin (c41 15 (by simp))); have e16 : b16 = true := h3 16 (hin (c41 16 (by simp))); have e22 : b22 = true := h3 22 (hin (c41 22 (by simp))); have e24 : b24 = true := h3 24 (hin (c41 24 (by simp))); have e25 : b25 = true := h3 25 (hin (c41 25 (by simp))); have e39 : b39 = true := h3 39 (hin (c41 39 (by simp))); have e40 : b40 = true := h3 40 (hin (c41 40 (by simp))); simp [e7, e12, e15, e16, e22, e24, e25, e39, e40]
    | n + 42, h, _, _ => exact absurd h (by omega)

theorem with_chk {P : Program} {ops : Array Oper} {Q : Exit → Act → World → Prop} {S : World → Prop} {t n : Nat} {L : Array Bool} {a : Act} {w : World} (h : (∀ b7 b12 b15 b16 b22 b24 b25 b39 b40, chk ops b7 b12 b15 b16 b22 b24 b25 b39 b40 = true) → AnyBut P .any ops Q S t n L a w) (hr : okOps ops = true) : AnyBut P .any ops Q S t n L a w := h (ready_ok hr)

theorem not_zero {b : Bool} (h : (!b).toNat = 0) : b = true := by cases b <;> simp_all

/-- What is known of what is done. -/
structure NF (w W : World) (n a b : Int) (t0 t1 t2 t3 : Int) (fx fy : Nat) (b7 b12 b15 b16 b22 b24 b25 b39 b40 : Bool) (y32 y37 y40 y41 y47 y49 y50 y64 y13 : Value) : Prop where
  f7 : b7 = true → ∃ g, y32 = .slice (some ⟨g, 0, none⟩) 1 1 ∧ Row W g 47 #[.complex .f64 fx fy]
  f12 : b12 = true → ∃ g, y37 = .slice (some ⟨g, 0, none⟩) 1 1 ∧ Row W g 50 #[.int .i64 n, .int .i64 a, .int .i64 b]
  f15 : b15 = true → ∃ g, y40 = .slice (some ⟨g, 0, none⟩) 2 2 ∧ Row W g 3 #[.int .i64 a, .int .i64 b]
  f16 : b16 = true → b15 = true ∧ ∃ g, y41 = .slice (some ⟨g, 0, none⟩) 2 2 ∧ Row W g 51 #[y40, .slice none 0 0]
  f22 : b22 = true → ∃ g, y47 = .slice (some ⟨g, 0, none⟩) 1 1 ∧ Row W g 53 #[.int .i64 b, .int .i64 a, .int .i64 n, .int .i64 b]
  f24 : b24 = true → ∃ g, y49 = .slice (some ⟨g, 0, none⟩) 1 1 ∧ Row W g 3 #[.int .i64 n]
  f25 : b25 = true → b24 = true ∧ ∃ g, y50 = .slice (some ⟨g, 0, none⟩) 1 1 ∧ Row W g 51 #[y49]
  f39 : b39 = true → (b7 = true ∧ b12 = true ∧ b16 = true ∧ b22 = true ∧ b25 = true) ∧ y64 = .agg #[y32, y37, y41, y47, y50, .int .i64 b, .int .i64 t0, .int .i64 t1, .int .i64 t2, .int .i64 t3]
  f40 : b40 = true → ∃ g, y13 = .pointer (some ⟨g, 0, none⟩) ∧ w.heap.size ≤ g ∧ Row W g 33 #[.slice none 0 0, .slice none 0 0, .slice none 0 0, .slice none 0 0, .slice none 0 0, .int .i64 0, .int .i64 0, .int .i64 0, .int .i64 0, .int .i64 0]
  below : Below w.heap.size w W

theorem NF.up {w W W' : World} {n a b t0 t1 t2 t3 : Int} {fx fy : Nat} {b7 b12 b15 b16 b22 b24 b25 b39 b40 : Bool} {y32 y37 y40 y41 y47 y49 y50 y64 y13 : Value} (h : NF w W n a b t0 t1 t2 t3 fx fy b7 b12 b15 b16 b22 b24 b25 b39 b40 y32 y37 y40 y41 y47 y49 y50 y64 y13) (hb : Below W.heap.size W W') : NF w W' n a b t0 t1 t2 t3 fx fy b7 b12 b15 b16 b22 b24 b25 b39 b40 y32 y37 y40 y41 y47 y49 y50 y64 y13 := by
  have r : ∀ {g : Nat} {t : TypeId} {cs : Array Value}, Row W g t cs → Row W' g t cs := fun hr => Below.row hb hr hr.lt
  exact ⟨fun e => by obtain ⟨g, e1, e2⟩ := h.f7 e; exact ⟨g, e1, r e2⟩, fun e => by obtain ⟨g, e1, e2⟩ := h.f12 e; exact ⟨g, e1, r e2⟩, fun e => by obtain ⟨g, e1, e2⟩ := h.f15 e; exact ⟨g, e1, r e2⟩,
    fun e => by obtain ⟨e0, g, e1, e2⟩ := h.f16 e; exact ⟨e0, g, e1, r e2⟩, fun e => by obtain ⟨g, e1, e2⟩ := h.f22 e; exact ⟨g, e1, r e2⟩, fun e => by obtain ⟨g, e1, e2⟩ := h.f24 e; exact ⟨g, e1, r e2⟩,
    fun e => by obtain ⟨e0, g, e1, e2⟩ := h.f25 e; exact ⟨e0, g, e1, r e2⟩, h.f39, fun e => by obtain ⟨g, e1, e0, e2⟩ := h.f40 e; exact ⟨g, e1, e0, r e2⟩, h.below.trans (hb.mono h.below.size)⟩

theorem NF.put {w W W' : World} {n a b t0 t1 t2 t3 : Int} {fx fy : Nat} {y32 y37 y40 y41 y47 y49 y50 y64 y13 : Value} {g13 : Nat} {cs : Array Value} (h : NF w W n a b t0 t1 t2 t3 fx fy true true true true true true true true true y32 y37 y40 y41 y47 y49 y50 y64 y13) (hk : KeptL [g13] W W') (hr : Row W g13 33 cs) (hb : Below w.heap.size w W') : NF w W' n a b t0 t1 t2 t3 fx fy true true true true true true true true false y32 y37 y40 y41 y47 y49 y50 y64 y13 := by
  have r : ∀ {g : Nat} {t : TypeId} {c : Array Value}, t ≠ 33 → Row W g t c → Row W' g t c := fun ht hg => hk.row hg (by simpa using Row.ne hg hr ht)
  exact ⟨fun e => by obtain ⟨g, e1, e2⟩ := h.f7 e; exact ⟨g, e1, r (by decide) e2⟩, fun e => by obtain ⟨g, e1, e2⟩ := h.f12 e; exact ⟨g, e1, r (by decide) e2⟩, fun e => by obtain ⟨g, e1, e2⟩ := h.f15 e; exact ⟨g, e1, r (by decide) e2⟩,
    fun e => by obtain ⟨e0, g, e1, e2⟩ := h.f16 e; exact ⟨e0, g, e1, r (by decide) e2⟩, fun e => by obtain ⟨g, e1, e2⟩ := h.f22 e; exact ⟨g, e1, r (by decide) e2⟩, fun e => by obtain ⟨g, e1, e2⟩ := h.f24 e; exact ⟨g, e1, r (by decide) e2⟩,
    fun e => by obtain ⟨e0, g, e1, e2⟩ := h.f25 e; exact ⟨e0, g, e1, r (by decide) e2⟩, h.f39, (fun e => by cases e), hb⟩

/-- The four times. -/
def Tm (bT oT : Nat) (t0 t1 t2 t3 : Int) (w : World) : Prop := w.cell? ⟨bT, oT, none⟩ = some (.int .i64 t0) ∧ w.cell? ⟨bT, oT + 1, none⟩ = some (.int .i64 t1) ∧ w.cell? ⟨bT, oT + 2, none⟩ = some (.int .i64 t2) ∧ w.cell? ⟨bT, oT + 3, none⟩ = some (.int .i64 t3)

theorem Tm.alloc {bT oT : Nat} {t0 t1 t2 t3 : Int} {w : World} (h : Tm bT oT t0 t1 t2 t3 w) (o : Obj) : Tm bT oT t0 t1 t2 t3 (w.alloc o) := ⟨cell_alloc h.1, cell_alloc h.2.1, cell_alloc h.2.2.1, cell_alloc h.2.2.2⟩

def cnt (b7 b12 b15 b16 b22 b24 b25 b39 b40 : Bool) : Nat := (!b7).toNat + (!b12).toNat + (!b15).toNat + (!b16).toNat + (!b22).toNat + (!b24).toNat + (!b25).toNat + (!b39).toNat + (!b40).toNat

def NInv (w : World) (x y X Y n a b t0 t1 t2 t3 : Int) (fx fy bT oT ln c : Nat) (m : Nat) (L : Array Bool) (ac : Act) (W : World) : Prop :=
  ∃ (b7 b12 b15 b16 b22 b24 b25 b39 b40 : Bool) (y32 y37 y40 y41 y47 y49 y50 y64 y13 : Value), L = Lf b7 b12 b15 b16 b22 b24 b25 b39 b40 ∧ ac = { tmps := #[.int .i32 x, .int .i32 y, .int .i64 n, .int .i64 a, .int .i64 b, .slice (some ⟨bT, oT, none⟩) ln c, undef, undef, undef, undef, undef, undef, .bool false, y13, undef, undef, undef, .bool true, .bool false, .bool false, .slice (some ⟨bT, oT, none⟩) ln c, .int .i64 (ln : Int), .bool (decide ((ln : Int) < 4)), .bool (decide ((ln : Int) < 4)), undef, .int .i32 x, .int .i32 X, .float .f64 fx, .int .i32 y, .int .i32 Y, .float .f64 fy, .complex .f64 fx fy, y32, .int .i64 n, .int .i64 a, .int .i64 b, .agg #[.int .i64 n, .int .i64 a, .int .i64 b], y37, .int .i64 a, .int .i64 b, y40, y41, .int .i64 b, .int .i64 a, .int .i64 n, .int .i64 b, .agg #[.int .i64 b, .int .i64 a, .int .i64 n, .int .i64 b], y47, .int .i64 n, y49, y50, .int .i64 b, .slice (some ⟨bT, oT, none⟩) ln c, .pointer (some ⟨bT, oT, none⟩), .int .i64 t0, .slice (some ⟨bT, oT, none⟩) ln c, .pointer (some ⟨bT, oT + 1, none⟩), .int .i64 t1, .slice (some ⟨bT, oT, none⟩) ln c, .pointer (some ⟨bT, oT + 2, none⟩), .int .i64 t2, .slice (some ⟨bT, oT, none⟩) ln c, .pointer (some ⟨bT, oT + 3, none⟩), .int .i64 t3, y64, undef, undef, undef, undef, undef, undef, undef, undef, undef, undef, undef, undef, undef, undef, undef, undef, undef, undef, undef, undef, undef, undef, undef, undef, undef, undef, undef, undef, undef, undef, undef, undef, undef, undef, undef, undef], defers := [] } ∧ m = cnt b7 b12 b15 b16 b22 b24 b25 b39 b40 ∧ NF w W n a b t0 t1 t2 t3 fx fy b7 b12 b15 b16 b22 b24 b25 b39 b40 y32 y37 y40 y41 y47 y49 y50 y64 y13 ∧ Tm bT oT t0 t1 t2 t3 W

/-- The layout of the law. -/
def LX (X Y n a b t0 t1 t2 t3 : Int) : Lay := ⟨[(X, Y)], [(n, a, b)], [[a, b], []], [(b, a, n, b)], [[n]], b, t0, t1, t2, t3⟩

theorem nf_five {w W : World} {n a b t0 t1 t2 t3 X Y : Int} {fx fy : Nat} {y32 y37 y40 y41 y47 y49 y50 y64 y13 : Value} (h : NF w W n a b t0 t1 t2 t3 fx fy true true true true true true true true false y32 y37 y40 y41 y47 y49 y50 y64 y13) (hx : Fl 0 fx X) (hy : Fl 0 fy Y) : Five W y32 y37 y41 y47 y50 (LX X Y n a b t0 t1 t2 t3) := by
  obtain ⟨g7, rfl, r7⟩ := h.f7 rfl
  obtain ⟨g12, rfl, r12⟩ := h.f12 rfl
  obtain ⟨g15, rfl, r15⟩ := h.f15 rfl
  obtain ⟨-, g16, rfl, r16⟩ := h.f16 rfl
  obtain ⟨g22, rfl, r22⟩ := h.f22 rfl
  obtain ⟨g24, rfl, r24⟩ := h.f24 rfl
  obtain ⟨-, g25, rfl, r25⟩ := h.f25 rfl
  refine ⟨⟨[(fx, fy)], Tl.row 1 r7 rfl (fun j u hu => by simpa [nvals] using hu), ⟨rfl, fun i h1 h2 => ?_⟩⟩, ⟨_, _, rfl, fun _ => ⟨g12, _, (0, 0), rfl, r12, fun j hj => ?_⟩⟩, ⟨[.slice (some ⟨g15, 0, none⟩) 2 2, .slice none 0 0], Tl.row 2 r16 rfl (fun j u hu => by simpa using hu), rfl, fun i h1 h2 => ?_⟩, ⟨_, _, rfl, fun _ => ⟨g22, _, (0, 0), rfl, r22, fun j hj => ?_⟩⟩, ⟨[.slice (some ⟨g24, 0, none⟩) 1 1], Tl.row 1 r25 rfl (fun j u hu => by simpa using hu), rfl, fun i h1 h2 => ?_⟩⟩
  · obtain rfl : i = 0 := by simp at h1; omega
    exact ⟨hx, hy⟩
  · obtain rfl : j = 0 := by simp [LX] at hj; omega
    exact ⟨rfl, rfl, rfl⟩
  · rcases (show i = 0 ∨ i = 1 by simp at h1; omega) with rfl | rfl
    · exact Tl.row 2 r15 rfl (fun j u hu => by simpa [LX, ivals] using hu)
    · exact Tl.nil _ _
  · obtain rfl : j = 0 := by simp [LX] at hj; omega
    exact ⟨rfl, rfl, rfl, rfl⟩
  · obtain rfl : i = 0 := by simp at h1; omega
    exact Tl.row 1 r24 rfl (fun j u hu => by simpa [LX, ivals] using hu)

theorem lx_room {X Y n a b t0 t1 t2 t3 : Int} (h : -1000000 ≤ X ∧ X ≤ 1000000 ∧ -1000000 ≤ Y ∧ Y ≤ 1000000) : Room (LX X Y n a b t0 t1 t2 t3) := by
  refine ⟨by simp [LX], by simp [LX], by simp [LX], by simp [LX], by simp [LX], ?_, ?_, ?_⟩
  · intro r hr
    simp [LX] at hr
    rcases hr with rfl | rfl <;> simp
  · intro r hr
    simp [LX] at hr
    subst hr; simp
  · intro p hp
    simp [LX] at hp
    subst hp
    simp only; omega

theorem lx_modest {X Y n a b t0 t1 t2 t3 : Int} (h : -1000000 ≤ X ∧ X ≤ 1000000 ∧ -1000000 ≤ Y ∧ Y ≤ 1000000) : Modest (LX X Y n a b t0 t1 t2 t3) := by
  refine ⟨by simp [LX], by simp [LX], by simp [LX], by simp [LX], by simp [LX], ?_, ?_, ?_, by simp [LX, enc, ebody, elist, erows, erow, etimes, enode, esec, epoint, eint, nbit_length]⟩
  · intro r hr
    simp [LX] at hr
    rcases hr with rfl | rfl <;> simp
  · intro r hr
    simp [LX] at hr
    subst hr; simp
  · intro p hp
    simp [LX] at hp
    subst hp
    simp only; omega

theorem lx_bytes (X Y n a b t0 t1 t2 t3 : Int) : (pack (enc (LX X Y n a b t0 t1 t2 t3))).length ≤ 500 := by
  have h : (enc (LX X Y n a b t0 t1 t2 t3)).length ≤ 3000 := by simp [LX, enc, ebody, elist, erows, erow, etimes, enode, esec, epoint, eint, nbit_length]
  rw [pack_length]; unfold nb; omega

/-- What the last test keeps. -/
structure Two13 (w W : World) (X Y n a b t0 t1 t2 t3 : Int) (fx fy fx2 fy2 n13 n15 g7 g12 g16 g22 g25 bm om mc : Nat) : Prop where
  r13 : Row W n13 33 #[.slice (some ⟨g7, 0, none⟩) 1 1, .slice (some ⟨g12, 0, none⟩) 1 1, .slice (some ⟨g16, 0, none⟩) 2 2, .slice (some ⟨g22, 0, none⟩) 1 1, .slice (some ⟨g25, 0, none⟩) 1 1, .int .i64 b, .int .i64 t0, .int .i64 t1, .int .i64 t2, .int .i64 t3]
  five : Five W (.slice (some ⟨g7, 0, none⟩) 1 1) (.slice (some ⟨g12, 0, none⟩) 1 1) (.slice (some ⟨g16, 0, none⟩) 2 2) (.slice (some ⟨g22, 0, none⟩) 1 1) (.slice (some ⟨g25, 0, none⟩) 1 1) (LX X Y n a b t0 t1 t2 t3)
  c15 : W.cell? ⟨n15, 0, none⟩ = some (.slice (some ⟨bm, om, none⟩) 1 mc)
  c7 : W.cell? ⟨g7, 0, none⟩ = some (.complex .f64 fx fy)
  cm : W.cell? ⟨bm, om, none⟩ = some (.complex .f64 fx2 fy2)
  below : Below w.heap.size w W

theorem drewN_below {W W' : World} {n : Nat} (h : W' = W.drewN n) : Below W.heap.size W W' := by rw [h]; exact ⟨rfl, rfl, rfl, Nat.le_refl _, fun _ _ => rfl⟩

theorem cell_up {W W' : World} {p : Addr} {v : Value} (h : W.cell? p = some v) (hb : Below W.heap.size W W') : W'.cell? p = some v := (hb.cell (cell_block h)).trans h

theorem five_up {W W' : World} {vN vS vP vQ vR : Value} {L : Lay} (h : Five W vN vS vP vQ vR L) (hb : Below W.heap.size W W') : Five W' vN vS vP vQ vR L := h.kept (KeptL.of_below (S := []) hb) (by intro t _ k hk; simp at hk)

theorem Two13.up {w W W' : World} {X Y n a b t0 t1 t2 t3 : Int} {fx fy fx2 fy2 n13 n15 g7 g12 g16 g22 g25 bm om mc : Nat} (h : Two13 w W X Y n a b t0 t1 t2 t3 fx fy fx2 fy2 n13 n15 g7 g12 g16 g22 g25 bm om mc) (hb : Below W.heap.size W W') : Two13 w W' X Y n a b t0 t1 t2 t3 fx fy fx2 fy2 n13 n15 g7 g12 g16 g22 g25 bm om mc :=
  ⟨Below.row hb h.r13 h.r13.lt, five_up h.five hb, cell_up h.c15 hb, cell_up h.c7 hb, cell_up h.cm hb, h.below.trans (hb.mono h.below.size)⟩

theorem Two13.lay {w W : World} {X Y n a b t0 t1 t2 t3 : Int} {fx fy fx2 fy2 n13 n15 g7 g12 g16 g22 g25 bm om mc : Nat} (h : Two13 w W X Y n a b t0 t1 t2 t3 fx fy fx2 fy2 n13 n15 g7 g12 g16 g22 g25 bm om mc) : LayV W W.heap.size (.agg #[.slice (some ⟨g7, 0, none⟩) 1 1, .slice (some ⟨g12, 0, none⟩) 1 1, .slice (some ⟨g16, 0, none⟩) 2 2, .slice (some ⟨g22, 0, none⟩) 1 1, .slice (some ⟨g25, 0, none⟩) 1 1, .int .i64 b, .int .i64 t0, .int .i64 t1, .int .i64 t2, .int .i64 t3]) (LX X Y n a b t0 t1 t2 t3) := IsLay.v ⟨_, _, _, _, _, rfl, h.five⟩

theorem Two13.cells {w W : World} {X Y n a b t0 t1 t2 t3 : Int} {fx fy fx2 fy2 n13 n15 g7 g12 g16 g22 g25 bm om mc : Nat} (h : Two13 w W X Y n a b t0 t1 t2 t3 fx fy fx2 fy2 n13 n15 g7 g12 g16 g22 g25 bm om mc) : W.cell? ⟨n13, 0, none⟩ = some (.slice (some ⟨g7, 0, none⟩) 1 1) ∧ W.cell? ⟨n13, 1, none⟩ = some (.slice (some ⟨g12, 0, none⟩) 1 1) ∧ W.cell? ⟨n13, 2, none⟩ = some (.slice (some ⟨g16, 0, none⟩) 2 2) ∧ W.cell? ⟨n13, 3, none⟩ = some (.slice (some ⟨g22, 0, none⟩) 1 1) ∧ W.cell? ⟨n13, 4, none⟩ = some (.slice (some ⟨g25, 0, none⟩) 1 1) ∧ W.cell? ⟨n13, 5, none⟩ = some (.int .i64 b) ∧ W.cell? ⟨n13, 6, none⟩ = some (.int .i64 t0) ∧ W.cell? ⟨n13, 7, none⟩ = some (.int .i64 t1) ∧ W.cell? ⟨n13, 8, none⟩ = some (.int .i64 t2) ∧ W.cell? ⟨n13, 9, none⟩ = some (.int .i64 t3) ∧ W.cell? ⟨n15, 0, none⟩ = some (.slice (some ⟨bm, om, none⟩) 1 mc) ∧ W.cell? ⟨g7, 0, none⟩ = some (.complex .f64 fx fy) ∧ W.cell? ⟨bm, om, none⟩ = some (.complex .f64 fx2 fy2) := by
  have h13 := h.r13
  refine ⟨?_, ?_, ?_, ?_, ?_, ?_, ?_, ?_, ?_, ?_, h.c15, h.c7, h.cm⟩
  · have := h13.cell 0; simpa using this
  · have := h13.cell 1; simpa using this
  · have := h13.cell 2; simpa using this
  · have := h13.cell 3; simpa using this
  · have := h13.cell 4; simpa using this
  · have := h13.cell 5; simpa using this
  · have := h13.cell 6; simpa using this
  · have := h13.cell 7; simpa using this
  · have := h13.cell 8; simpa using this
  · have := h13.cell 9; simpa using this

set_option maxHeartbeats 1600000 in
theorem walk (a0 : Int) (a1 : Int) (a2 : Int) (a3 : Int) (a4 : Int) (a5 : Option Addr) (len5 cap5 : Nat) (z5 : List Int) (w : World) (w0 : (Lit.int .i32 a0).wf = true) (w1 : (Lit.int .i32 a1).wf = true) (w2 : (Lit.int .i64 a2).wf = true) (w3 : (Lit.int .i64 a3).wf = true) (w4 : (Lit.int .i64 a4).wf = true) (w5 : IsRow .i64 w a5 len5 cap5 z5) :
    Calls Try.prog 6 #[.int .i32 a0, .int .i32 a1, .int .i64 a2, .int .i64 a3, .int .i64 a4, .slice a5 len5 cap5] w fun e w' => e = .returned (.bool true) ∧ Below w.heap.size w w' := by
  obtain ⟨q5, hq5, hrd⟩ := arg_ints w5
  clear w2 w3 w4 w5
  have HRD := Lib.hid hrd; have HQ5 := Lib.hid hq5
  clear hrd hq5
  by_cases hsmall : len5 < 4
  · go_enter Try.func6, Try.ntmps6
    go_wp2_with fail
    refine (bare_any _).mono ?_; rintro e wA ⟨rfl, hbA⟩
    have HA := Lib.hid hbA; clear hbA
    go_wp2_with fail
    refine (bare_any _).mono ?_; rintro e wB ⟨rfl, hbB⟩
    have HB := Lib.hid (HA.out.trans (hbB.mono HA.out.size)); clear hbB
    go_wp2_with fail
    go_ret
    exact ⟨rfl, HB.out⟩
  have hlen : 4 ≤ len5 := by omega
  clear hsmall
  obtain ⟨x, rfl⟩ : ∃ x, x = a0 := ⟨_, rfl⟩
  obtain ⟨y, rfl⟩ : ∃ x, x = a1 := ⟨_, rfl⟩
  obtain ⟨n, rfl⟩ : ∃ x, x = a2 := ⟨_, rfl⟩
  obtain ⟨a, rfl⟩ : ∃ x, x = a3 := ⟨_, rfl⟩
  obtain ⟨b, rfl⟩ : ∃ x, x = a4 := ⟨_, rfl⟩
  obtain ⟨ln, rfl⟩ : ∃ x, x = len5 := ⟨_, rfl⟩
  obtain ⟨c, rfl⟩ : ∃ x, x = cap5 := ⟨_, rfl⟩
  obtain ⟨bT, oT, hA5, HC5⟩ : ∃ bT oT, a5 = some ⟨bT, oT, none⟩ ∧ Hid (∀ (W : World), Below w.heap.size w W → ∀ j (h : j < q5.length), W.cell? ⟨bT, oT + j, none⟩ = some (.int .i64 q5[j])) := by
    obtain ⟨A, c', hv, -, hx⟩ := HRD.out
    have hl := HQ5.out
    obtain ⟨bT, oT, hA, hb, hcell⟩ := hx (by rw [ivals_length]; omega)
    injection hv with e1
    exact ⟨bT, oT, by rw [e1, hA], fun W hW j hj => (hW.cell (p := ⟨bT, oT + j, none⟩) hb).trans (hcell j _ (ivals_get q5 j hj))⟩
  subst hA5
  have hl5 := HQ5.out
  obtain ⟨t0, ht0⟩ : ∃ t, q5[0]'(by omega) = t := ⟨_, rfl⟩
  obtain ⟨t1, ht1⟩ : ∃ t, q5[1]'(by omega) = t := ⟨_, rfl⟩
  obtain ⟨t2, ht2⟩ : ∃ t, q5[2]'(by omega) = t := ⟨_, rfl⟩
  obtain ⟨t3, ht3⟩ : ∃ t, q5[3]'(by omega) = t := ⟨_, rfl⟩
  have HTM : Hid (∀ (W : World), Below w.heap.size w W → Tm bT oT t0 t1 t2 t3 W) := fun W hW => by
    have h := HC5.out W hW
    exact ⟨by rw [← ht0]; exact h 0 (by omega), by rw [← ht1]; exact h 1 (by omega), by rw [← ht2]; exact h 2 (by omega), by rw [← ht3]; exact h 3 (by omega)⟩
  clear ht0 ht1 ht2 ht3 hl5 HC5 HRD
  have hx0 : -2147483648 ≤ x ∧ x ≤ 2147483647 := i32_in w0
  have hy0 : -2147483648 ≤ y ∧ y ≤ 2147483647 := i32_in w1
  clear w0 w1
  obtain ⟨X, hX⟩ : ∃ X, x.tmod 1000001 = X := ⟨_, rfl⟩
  obtain ⟨Y, hY⟩ : ∃ Y, y.tmod 1000001 = Y := ⟨_, rfl⟩
  have HXB : Hid (-1000000 ≤ X ∧ X ≤ 1000000 ∧ -1000000 ≤ Y ∧ Y ≤ 1000000) := by
    have h1 := tmod_in x; have h2 := tmod_in y
    rw [hX] at h1; rw [hY] at h2
    exact ⟨h1.1, h1.2, h2.1, h2.2⟩
  obtain ⟨fx, hfx⟩ : ∃ f, floatOfInt .f64 X = f := ⟨_, rfl⟩
  obtain ⟨fy, hfy⟩ : ∃ f, floatOfInt .f64 Y = f := ⟨_, rfl⟩
  have HFX : Hid (Fl 0 fx X ∧ Fl 0 fy Y) := by
    have h := HXB.out
    exact ⟨by rw [← hfx]; exact fl_ofInt _ (by omega), by rw [← hfy]; exact fl_ofInt _ (by omega)⟩
  have hXw : IntKind.i32.wrap X = X := by have h := HXB.out; rw [IntKind.wrap_i32]; omega
  have hYw : IntKind.i32.wrap Y = Y := by have h := HXB.out; rw [IntKind.wrap_i32]; omega
  clear hx0 hy0
  go_enter Try.func6, Try.ntmps6
  go_wp2_with fail
  refine (bare_any _).mono ?_; rintro e wA ⟨rfl, hbA⟩
  have HA := Lib.hid hbA
  clear hbA
  have l0 : 0 < ln := by omega
  have l1 : 1 < ln := by omega
  have l2 : 2 < ln := by omega
  have l3 : 3 < ln := by omega
  have m1 : ¬ (ln : Int) ≤ 1 := by omega
  have m2 : ¬ (ln : Int) ≤ 2 := by omega
  have m3 : ¬ (ln : Int) ≤ 3 := by omega
  go_upto_region 3 with (fail)
  go_cut [13] (fun v13 wx => ∃ n13 y32 y37 y41 y47 y50, v13 = .pointer (some ⟨n13, 0, none⟩) ∧ Hid (Row wx n13 33 #[y32, y37, y41, y47, y50, .int .i64 b, .int .i64 t0, .int .i64 t1, .int .i64 t2, .int .i64 t3] ∧ (∃ y40 y49 y64 y13, NF w wx n a b t0 t1 t2 t3 fx fy true true true true true true true true false y32 y37 y40 y41 y47 y49 y50 y64 y13) ∧ w.heap.size ≤ n13))
  case first =>
    have HU : Hid (Below w.heap.size w wA.drew) := ⟨HA.out.os, HA.out.tape, HA.out.output, HA.out.size, HA.out.block⟩
    have HT := Lib.hid (HTM.out _ HU.out)
    refine AnyBut.region (Tm bT oT t0 t1 t2 t3) 41 (by kernel_rfl) ?_
    change AnyBut _ _ _ _ _ _ _ _ _ wA.drew
    generalize wA.drew = U0 at *
    clear HA
    refine AnyBut.take 0 rfl (by kernel_rfl) (by kernel_rfl) (by kernel_rfl) (by kernel_rfl) (by decide) (fun _ _ _ h => h) (yields_of (by rfl) (fun w9 hS => (by obtain ⟨s0, s1, s2, s3⟩ := hS; go_simp; try rfl))) HT.out ?_
    refine AnyBut.take 1 (v := .int .i32 X) rfl (by kernel_rfl) (by kernel_rfl) (by kernel_rfl) (by kernel_rfl) (by decide) (fun _ _ _ h => h) (yields_of (by rfl) (fun w9 hS => (by obtain ⟨s0, s1, s2, s3⟩ := hS; go_simp; try rfl))) HT.out ?_
    refine AnyBut.take 2 (v := .float .f64 fx) rfl (by kernel_rfl) (by kernel_rfl) (by kernel_rfl) (by kernel_rfl) (by decide) (fun _ _ _ h => h) (yields_of (by rfl) (fun w9 hS => (by obtain ⟨s0, s1, s2, s3⟩ := hS; go_simp; try rfl))) HT.out ?_
    refine AnyBut.take 3 rfl (by kernel_rfl) (by kernel_rfl) (by kernel_rfl) (by kernel_rfl) (by decide) (fun _ _ _ h => h) (yields_of (by rfl) (fun w9 hS => (by obtain ⟨s0, s1, s2, s3⟩ := hS; go_simp; try rfl))) HT.out ?_
    refine AnyBut.take 4 (v := .int .i32 Y) rfl (by kernel_rfl) (by kernel_rfl) (by kernel_rfl) (by kernel_rfl) (by decide) (fun _ _ _ h => h) (yields_of (by rfl) (fun w9 hS => (by obtain ⟨s0, s1, s2, s3⟩ := hS; go_simp; try rfl))) HT.out ?_
    refine AnyBut.take 5 (v := .float .f64 fy) rfl (by kernel_rfl) (by kernel_rfl) (by kernel_rfl) (by kernel_rfl) (by decide) (fun _ _ _ h => h) (yields_of (by rfl) (fun w9 hS => (by obtain ⟨s0, s1, s2, s3⟩ := hS; go_simp; try rfl))) HT.out ?_
    refine AnyBut.take 6 (v := .complex .f64 fx fy) rfl (by kernel_rfl) (by kernel_rfl) (by kernel_rfl) (by kernel_rfl) (by decide) (fun _ _ _ h => h) (yields_of (by rfl) (fun w9 hS => (by obtain ⟨s0, s1, s2, s3⟩ := hS; go_simp; try rfl))) HT.out ?_
    refine AnyBut.take 8 rfl (by kernel_rfl) (by kernel_rfl) (by kernel_rfl) (by kernel_rfl) (by decide) (fun _ _ _ h => h) (yields_of (by rfl) (fun w9 hS => (by obtain ⟨s0, s1, s2, s3⟩ := hS; go_simp; try rfl))) HT.out ?_
    refine AnyBut.take 9 rfl (by kernel_rfl) (by kernel_rfl) (by kernel_rfl) (by kernel_rfl) (by decide) (fun _ _ _ h => h) (yields_of (by rfl) (fun w9 hS => (by obtain ⟨s0, s1, s2, s3⟩ := hS; go_simp; try rfl))) HT.out ?_
    refine AnyBut.take 10 rfl (by kernel_rfl) (by kernel_rfl) (by kernel_rfl) (by kernel_rfl) (by decide) (fun _ _ _ h => h) (yields_of (by rfl) (fun w9 hS => (by obtain ⟨s0, s1, s2, s3⟩ := hS; go_simp; try rfl))) HT.out ?_
    refine AnyBut.take 11 rfl (by kernel_rfl) (by kernel_rfl) (by kernel_rfl) (by kernel_rfl) (by decide) (fun _ _ _ h => h) (yields_of (by rfl) (fun w9 hS => (by obtain ⟨s0, s1, s2, s3⟩ := hS; go_simp; try rfl))) HT.out ?_
    refine AnyBut.take 13 rfl (by kernel_rfl) (by kernel_rfl) (by kernel_rfl) (by kernel_rfl) (by decide) (fun _ _ _ h => h) (yields_of (by rfl) (fun w9 hS => (by obtain ⟨s0, s1, s2, s3⟩ := hS; go_simp; try rfl))) HT.out ?_
    refine AnyBut.take 14 rfl (by kernel_rfl) (by kernel_rfl) (by kernel_rfl) (by kernel_rfl) (by decide) (fun _ _ _ h => h) (yields_of (by rfl) (fun w9 hS => (by obtain ⟨s0, s1, s2, s3⟩ := hS; go_simp; try rfl))) HT.out ?_
    refine AnyBut.take 17 rfl (by kernel_rfl) (by kernel_rfl) (by kernel_rfl) (by kernel_rfl) (by decide) (fun _ _ _ h => h) (yields_of (by rfl) (fun w9 hS => (by obtain ⟨s0, s1, s2, s3⟩ := hS; go_simp; try rfl))) HT.out ?_
    refine AnyBut.take 18 rfl (by kernel_rfl) (by kernel_rfl) (by kernel_rfl) (by kernel_rfl) (by decide) (fun _ _ _ h => h) (yields_of (by rfl) (fun w9 hS => (by obtain ⟨s0, s1, s2, s3⟩ := hS; go_simp; try rfl))) HT.out ?_
    refine AnyBut.take 19 rfl (by kernel_rfl) (by kernel_rfl) (by kernel_rfl) (by kernel_rfl) (by decide) (fun _ _ _ h => h) (yields_of (by rfl) (fun w9 hS => (by obtain ⟨s0, s1, s2, s3⟩ := hS; go_simp; try rfl))) HT.out ?_
    refine AnyBut.take 20 rfl (by kernel_rfl) (by kernel_rfl) (by kernel_rfl) (by kernel_rfl) (by decide) (fun _ _ _ h => h) (yields_of (by rfl) (fun w9 hS => (by obtain ⟨s0, s1, s2, s3⟩ := hS; go_simp; try rfl))) HT.out ?_
    refine AnyBut.take 21 rfl (by kernel_rfl) (by kernel_rfl) (by kernel_rfl) (by kernel_rfl) (by decide) (fun _ _ _ h => h) (yields_of (by rfl) (fun w9 hS => (by obtain ⟨s0, s1, s2, s3⟩ := hS; go_simp; try rfl))) HT.out ?_
    refine AnyBut.take 23 rfl (by kernel_rfl) (by kernel_rfl) (by kernel_rfl) (by kernel_rfl) (by decide) (fun _ _ _ h => h) (yields_of (by rfl) (fun w9 hS => (by obtain ⟨s0, s1, s2, s3⟩ := hS; go_simp; try rfl))) HT.out ?_
    refine AnyBut.take 26 rfl (by kernel_rfl) (by kernel_rfl) (by kernel_rfl) (by kernel_rfl) (by decide) (fun _ _ _ h => h) (yields_of (by rfl) (fun w9 hS => (by obtain ⟨s0, s1, s2, s3⟩ := hS; go_simp; try rfl))) HT.out ?_
    refine AnyBut.take 27 rfl (by kernel_rfl) (by kernel_rfl) (by kernel_rfl) (by kernel_rfl) (by decide) (fun _ _ _ h => h) (yields_of (by rfl) (fun w9 hS => (by obtain ⟨s0, s1, s2, s3⟩ := hS; go_simp; try rfl))) HT.out ?_
    refine AnyBut.take 28 (v := .pointer (some ⟨bT, oT, none⟩)) rfl (by kernel_rfl) (by kernel_rfl) (by kernel_rfl) (by kernel_rfl) (by decide) (fun _ _ _ h => h) (yields_of (by rfl) (fun w9 hS => (by obtain ⟨s0, s1, s2, s3⟩ := hS; go_simp; try rfl))) HT.out ?_
    refine AnyBut.take 29 rfl (by kernel_rfl) (by kernel_rfl) (by kernel_rfl) (by kernel_rfl) (by decide) (fun _ _ _ h => h) (yields_of (by rfl) (fun w9 hS => (by obtain ⟨s0, s1, s2, s3⟩ := hS; go_simp; try rfl))) HT.out ?_
    refine AnyBut.take 30 rfl (by kernel_rfl) (by kernel_rfl) (by kernel_rfl) (by kernel_rfl) (by decide) (fun _ _ _ h => h) (yields_of (by rfl) (fun w9 hS => (by obtain ⟨s0, s1, s2, s3⟩ := hS; go_simp; try rfl))) HT.out ?_
    refine AnyBut.take 31 (v := .pointer (some ⟨bT, oT + 1, none⟩)) rfl (by kernel_rfl) (by kernel_rfl) (by kernel_rfl) (by kernel_rfl) (by decide) (fun _ _ _ h => h) (yields_of (by rfl) (fun w9 hS => (by obtain ⟨s0, s1, s2, s3⟩ := hS; go_simp; try rfl))) HT.out ?_
    refine AnyBut.take 32 rfl (by kernel_rfl) (by kernel_rfl) (by kernel_rfl) (by kernel_rfl) (by decide) (fun _ _ _ h => h) (yields_of (by rfl) (fun w9 hS => (by obtain ⟨s0, s1, s2, s3⟩ := hS; go_simp; try rfl))) HT.out ?_
    refine AnyBut.take 33 rfl (by kernel_rfl) (by kernel_rfl) (by kernel_rfl) (by kernel_rfl) (by decide) (fun _ _ _ h => h) (yields_of (by rfl) (fun w9 hS => (by obtain ⟨s0, s1, s2, s3⟩ := hS; go_simp; try rfl))) HT.out ?_
    refine AnyBut.take 34 (v := .pointer (some ⟨bT, oT + 2, none⟩)) rfl (by kernel_rfl) (by kernel_rfl) (by kernel_rfl) (by kernel_rfl) (by decide) (fun _ _ _ h => h) (yields_of (by rfl) (fun w9 hS => (by obtain ⟨s0, s1, s2, s3⟩ := hS; go_simp; try rfl))) HT.out ?_
    refine AnyBut.take 35 rfl (by kernel_rfl) (by kernel_rfl) (by kernel_rfl) (by kernel_rfl) (by decide) (fun _ _ _ h => h) (yields_of (by rfl) (fun w9 hS => (by obtain ⟨s0, s1, s2, s3⟩ := hS; go_simp; try rfl))) HT.out ?_
    refine AnyBut.take 36 rfl (by kernel_rfl) (by kernel_rfl) (by kernel_rfl) (by kernel_rfl) (by decide) (fun _ _ _ h => h) (yields_of (by rfl) (fun w9 hS => (by obtain ⟨s0, s1, s2, s3⟩ := hS; go_simp; try rfl))) HT.out ?_
    refine AnyBut.take 37 (v := .pointer (some ⟨bT, oT + 3, none⟩)) rfl (by kernel_rfl) (by kernel_rfl) (by kernel_rfl) (by kernel_rfl) (by decide) (fun _ _ _ h => h) (yields_of (by rfl) (fun w9 hS => (by obtain ⟨s0, s1, s2, s3⟩ := hS; go_simp; try rfl))) HT.out ?_
    refine AnyBut.take 38 rfl (by kernel_rfl) (by kernel_rfl) (by kernel_rfl) (by kernel_rfl) (by decide) (fun _ _ _ h => h) (yields_of (by rfl) (fun w9 hS => (by obtain ⟨s0, s1, s2, s3⟩ := hS; go_simp; try rfl))) HT.out ?_
    refine with_chk ?_ (by kernel_rfl)
    intro hchk
    have HCHK := Lib.hid hchk; clear hchk
    refine any_inv (NInv w x y X Y n a b t0 t1 t2 t3 fx fy bT oT ln c) 1 ?_ ?_ 9 _ _ _ ⟨false, false, false, false, false, false, false, false, false, undef, undef, undef, undef, undef, undef, undef, undef, undef, (by kernel_rfl), (by kernel_rfl), (by kernel_rfl), ⟨(fun h => by cases h), (fun h => by cases h), (fun h => by cases h), (fun h => by cases h), (fun h => by cases h), (fun h => by cases h), (fun h => by cases h), (fun h => by cases h), (fun h => by cases h), HU.out⟩, HT.out⟩
    · rintro L ac W ⟨b7, b12, b15, b16, b22, b24, b25, b39, b40, y32, y37, y40, y41, y47, y49, y50, y64, y13, rfl, rfl, hm, hNF, hTm⟩
      obtain ⟨rfl, rfl, rfl, rfl, rfl, rfl, rfl, rfl, rfl⟩ : b7 = true ∧ b12 = true ∧ b15 = true ∧ b16 = true ∧ b22 = true ∧ b24 = true ∧ b25 = true ∧ b39 = true ∧ b40 = true := by
        unfold cnt at hm
        exact ⟨not_zero (by omega), not_zero (by omega), not_zero (by omega), not_zero (by omega), not_zero (by omega), not_zero (by omega), not_zero (by omega), not_zero (by omega), not_zero (by omega)⟩
      obtain ⟨n13, rfl, hn13, hr13⟩ := hNF.f40 rfl
      obtain ⟨-, rfl⟩ := hNF.f39 rfl
      obtain ⟨g7, rfl, -⟩ := hNF.f7 rfl
      obtain ⟨g12, rfl, -⟩ := hNF.f12 rfl
      obtain ⟨-, g16, rfl, -⟩ := hNF.f16 rfl
      obtain ⟨g22, rfl, -⟩ := hNF.f22 rfl
      obtain ⟨-, g25, rfl, -⟩ := hNF.f25 rfl
      have HN := Lib.hid hNF; have HR := Lib.hid hr13; have HG := Lib.hid hn13
      clear hNF hTm hm hr13 hn13
      refine AnyBut.one 41 rfl (by kernel_rfl) (by rfl) ?_
      have hz := HR.out
      have q0 := hz.cell 0; have r0 := hz.frozen 0
      have q1 := hz.cell 1; have r1 := hz.frozen 1
      have q2 := hz.cell 2; have r2 := hz.frozen 2
      have q3 := hz.cell 3; have r3 := hz.frozen 3
      have q4 := hz.cell 4; have r4 := hz.frozen 4
      have q5 := hz.cell 5; have r5 := hz.frozen 5
      have q6 := hz.cell 6; have r6 := hz.frozen 6
      have q7 := hz.cell 7; have r7 := hz.frozen 7
      have q8 := hz.cell 8; have r8 := hz.frozen 8
      have q9 := hz.cell 9; have r9 := hz.frozen 9
      simp only [List.getElem?_toArray, List.getElem?_cons_zero, List.getElem?_cons_succ] at q0 q1 q2 q3 q4 q5 q6 q7 q8 q9
      go_simp
      have hp := put10 hz (.slice (some ⟨g7, 0, none⟩) 1 1) (.slice (some ⟨g12, 0, none⟩) 1 1) (.slice (some ⟨g16, 0, none⟩) 2 2) (.slice (some ⟨g22, 0, none⟩) 1 1) (.slice (some ⟨g25, 0, none⟩) 1 1) (.int .i64 b) (.int .i64 t0) (.int .i64 t1) (.int .i64 t2) (.int .i64 t3)
      have HX : Hid (Row ((((((((((W.setCell ⟨n13, 0, none⟩ (.slice (some ⟨g7, 0, none⟩) 1 1)).setCell ⟨n13, 1, none⟩ (.slice (some ⟨g12, 0, none⟩) 1 1)).setCell ⟨n13, 2, none⟩ (.slice (some ⟨g16, 0, none⟩) 2 2)).setCell ⟨n13, 3, none⟩ (.slice (some ⟨g22, 0, none⟩) 1 1)).setCell ⟨n13, 4, none⟩ (.slice (some ⟨g25, 0, none⟩) 1 1)).setCell ⟨n13, 5, none⟩ (.int .i64 b)).setCell ⟨n13, 6, none⟩ (.int .i64 t0)).setCell ⟨n13, 7, none⟩ (.int .i64 t1)).setCell ⟨n13, 8, none⟩ (.int .i64 t2)).setCell ⟨n13, 9, none⟩ (.int .i64 t3)) n13 33 #[.slice (some ⟨g7, 0, none⟩) 1 1, .slice (some ⟨g12, 0, none⟩) 1 1, .slice (some ⟨g16, 0, none⟩) 2 2, .slice (some ⟨g22, 0, none⟩) 1 1, .slice (some ⟨g25, 0, none⟩) 1 1, .int .i64 b, .int .i64 t0, .int .i64 t1, .int .i64 t2, .int .i64 t3] ∧ (∃ y40 y49 y64 y13, NF w ((((((((((W.setCell ⟨n13, 0, none⟩ (.slice (some ⟨g7, 0, none⟩) 1 1)).setCell ⟨n13, 1, none⟩ (.slice (some ⟨g12, 0, none⟩) 1 1)).setCell ⟨n13, 2, none⟩ (.slice (some ⟨g16, 0, none⟩) 2 2)).setCell ⟨n13, 3, none⟩ (.slice (some ⟨g22, 0, none⟩) 1 1)).setCell ⟨n13, 4, none⟩ (.slice (some ⟨g25, 0, none⟩) 1 1)).setCell ⟨n13, 5, none⟩ (.int .i64 b)).setCell ⟨n13, 6, none⟩ (.int .i64 t0)).setCell ⟨n13, 7, none⟩ (.int .i64 t1)).setCell ⟨n13, 8, none⟩ (.int .i64 t2)).setCell ⟨n13, 9, none⟩ (.int .i64 t3)) n a b t0 t1 t2 t3 fx fy true true true true true true true true false (.slice (some ⟨g7, 0, none⟩) 1 1) (.slice (some ⟨g12, 0, none⟩) 1 1) y40 (.slice (some ⟨g16, 0, none⟩) 2 2) (.slice (some ⟨g22, 0, none⟩) 1 1) y49 (.slice (some ⟨g25, 0, none⟩) 1 1) y64 y13) ∧ w.heap.size ≤ n13) :=
        ⟨hp.1, ⟨_, _, _, _, HN.out.put hp.2.2 hz (HN.out.below.trans (hp.2.1.mono HG.out))⟩, HG.out⟩
      clear hp hz HN HR q0 r0 q1 r1 q2 r2 q3 r3 q4 r4 q5 r5 q6 r6 q7 r7 q8 r8 q9 r9
      generalize ((((((((((W.setCell ⟨n13, 0, none⟩ (.slice (some ⟨g7, 0, none⟩) 1 1)).setCell ⟨n13, 1, none⟩ (.slice (some ⟨g12, 0, none⟩) 1 1)).setCell ⟨n13, 2, none⟩ (.slice (some ⟨g16, 0, none⟩) 2 2)).setCell ⟨n13, 3, none⟩ (.slice (some ⟨g22, 0, none⟩) 1 1)).setCell ⟨n13, 4, none⟩ (.slice (some ⟨g25, 0, none⟩) 1 1)).setCell ⟨n13, 5, none⟩ (.int .i64 b)).setCell ⟨n13, 6, none⟩ (.int .i64 t0)).setCell ⟨n13, 7, none⟩ (.int .i64 t1)).setCell ⟨n13, 8, none⟩ (.int .i64 t2)).setCell ⟨n13, 9, none⟩ (.int .i64 t3)) = U9 at *
      refine AnyBut.done (by kernel_rfl) ?_
      go_wp2_with fail
      go_meet
      case rel => exact ⟨n13, _, _, _, _, _, rfl, HX⟩
    · rintro m L ac W ⟨b7, b12, b15, b16, b22, b24, b25, b39, b40, y32, y37, y40, y41, y47, y49, y50, y64, y13, rfl, rfl, hm, hNF, hTm⟩
      have hk := HCHK.out b7 b12 b15 b16 b22 b24 b25 b39 b40
      unfold chk at hk
      rw [Bool.and_eq_true] at hk
      refine ⟨?_, fun j hj => ?_⟩
      · intro hnil
        have h1 := hk.1
        rw [hnil] at h1
        simp only [List.isEmpty_nil, Bool.not_true, Bool.or_false, Bool.and_eq_true] at h1
        obtain ⟨⟨⟨⟨⟨⟨⟨⟨rfl, rfl⟩, rfl⟩, rfl⟩, rfl⟩, rfl⟩, rfl⟩, rfl⟩, rfl⟩ := h1
        simp [cnt] at hm
      have h2 := List.all_eq_true.1 hk.2 j hj
      clear hk hj
      simp only [Bool.or_eq_true, Bool.and_eq_true, beq_iff_eq, Bool.not_eq_true'] at h2
      have HTM2 := Lib.hid hTm
      clear hTm
      rcases h2 with (((((((((h | h) | h) | h) | h) | h) | h) | h) | h) | h)
      · obtain ⟨rfl, rfl⟩ := h
        have hb := (Below.refl W.heap.size W).alloc (Nat.le_refl _) (.cells #[.complex .f64 fx fy] 47)
        have hN := hNF.up hb
        have hT2 := HTM2.out.alloc (.cells #[.complex .f64 fx fy] 47)
        have HQ : Hid (NF w (W.alloc (.cells #[.complex .f64 fx fy] 47)) n a b t0 t1 t2 t3 fx fy true b12 b15 b16 b22 b24 b25 b39 b40 (.slice (some ⟨W.heap.size, 0, none⟩) 1 1) y37 y40 y41 y47 y49 y50 y64 y13) := ⟨fun _ => ⟨_, rfl, Row.new W 47 _⟩, hN.f12, hN.f15, hN.f16, hN.f22, hN.f24, hN.f25, fun e => absurd (hN.f39 e).1.1 (by simp), hN.f40, hN.below⟩
        have HT2 := Lib.hid hT2
        clear hN hT2 hb hNF
        refine wpOp_of rfl (by rfl) ?_
        go_simp
        first | refine ⟨HT2.out, ?_⟩ | refine ⟨fun _ => HT2.out, ?_⟩
        exact ⟨true, b12, b15, b16, b22, b24, b25, b39, b40, (.slice (some ⟨W.heap.size, 0, none⟩) 1 1), y37, y40, y41, y47, y49, y50, y64, y13, rfl, rfl, by unfold cnt at hm ⊢; simp only [Bool.not_false, Bool.not_true, Bool.toNat_true, Bool.toNat_false] at hm ⊢; omega, HQ.out, HT2.out⟩
      · obtain ⟨rfl, rfl⟩ := h
        have hb := (Below.refl W.heap.size W).alloc (Nat.le_refl _) (.cells #[.int .i64 n, .int .i64 a, .int .i64 b] 50)
        have hN := hNF.up hb
        have hT2 := HTM2.out.alloc (.cells #[.int .i64 n, .int .i64 a, .int .i64 b] 50)
        have HQ : Hid (NF w (W.alloc (.cells #[.int .i64 n, .int .i64 a, .int .i64 b] 50)) n a b t0 t1 t2 t3 fx fy b7 true b15 b16 b22 b24 b25 b39 b40 y32 (.slice (some ⟨W.heap.size, 0, none⟩) 1 1) y40 y41 y47 y49 y50 y64 y13) := ⟨hN.f7, fun _ => ⟨_, rfl, Row.new W 50 _⟩, hN.f15, hN.f16, hN.f22, hN.f24, hN.f25, fun e => absurd (hN.f39 e).1.2.1 (by simp), hN.f40, hN.below⟩
        have HT2 := Lib.hid hT2
        clear hN hT2 hb hNF
        refine wpOp_of rfl (by rfl) ?_
        go_simp
        first | refine ⟨HT2.out, ?_⟩ | refine ⟨fun _ => HT2.out, ?_⟩
        exact ⟨b7, true, b15, b16, b22, b24, b25, b39, b40, y32, (.slice (some ⟨W.heap.size, 0, none⟩) 1 1), y40, y41, y47, y49, y50, y64, y13, rfl, rfl, by unfold cnt at hm ⊢; simp only [Bool.not_false, Bool.not_true, Bool.toNat_true, Bool.toNat_false] at hm ⊢; omega, HQ.out, HT2.out⟩
      · obtain ⟨rfl, rfl⟩ := h
        have hb := (Below.refl W.heap.size W).alloc (Nat.le_refl _) (.cells #[.int .i64 a, .int .i64 b] 3)
        have hN := hNF.up hb
        have hT2 := HTM2.out.alloc (.cells #[.int .i64 a, .int .i64 b] 3)
        have HQ : Hid (NF w (W.alloc (.cells #[.int .i64 a, .int .i64 b] 3)) n a b t0 t1 t2 t3 fx fy b7 b12 true b16 b22 b24 b25 b39 b40 y32 y37 (.slice (some ⟨W.heap.size, 0, none⟩) 2 2) y41 y47 y49 y50 y64 y13) := ⟨hN.f7, hN.f12, fun _ => ⟨_, rfl, Row.new W 3 _⟩, fun e => absurd (hN.f16 e).1 (by simp), hN.f22, hN.f24, hN.f25, hN.f39, hN.f40, hN.below⟩
        have HT2 := Lib.hid hT2
        clear hN hT2 hb hNF
        refine wpOp_of rfl (by rfl) ?_
        go_simp
        first | refine ⟨HT2.out, ?_⟩ | refine ⟨fun _ => HT2.out, ?_⟩
        exact ⟨b7, b12, true, b16, b22, b24, b25, b39, b40, y32, y37, (.slice (some ⟨W.heap.size, 0, none⟩) 2 2), y41, y47, y49, y50, y64, y13, rfl, rfl, by unfold cnt at hm ⊢; simp only [Bool.not_false, Bool.not_true, Bool.toNat_true, Bool.toNat_false] at hm ⊢; omega, HQ.out, HT2.out⟩
      · obtain ⟨⟨rfl, rfl⟩, rfl⟩ := h
        obtain ⟨g15, rfl, -⟩ := hNF.f15 rfl
        have hb := (Below.refl W.heap.size W).alloc (Nat.le_refl _) (.cells #[.slice (some ⟨g15, 0, none⟩) 2 2, .slice none 0 0] 51)
        have hN := hNF.up hb
        have hT2 := HTM2.out.alloc (.cells #[.slice (some ⟨g15, 0, none⟩) 2 2, .slice none 0 0] 51)
        have HQ : Hid (NF w (W.alloc (.cells #[.slice (some ⟨g15, 0, none⟩) 2 2, .slice none 0 0] 51)) n a b t0 t1 t2 t3 fx fy b7 b12 true true b22 b24 b25 b39 b40 y32 y37 (.slice (some ⟨g15, 0, none⟩) 2 2) (.slice (some ⟨W.heap.size, 0, none⟩) 2 2) y47 y49 y50 y64 y13) := ⟨hN.f7, hN.f12, hN.f15, fun _ => ⟨rfl, _, rfl, Row.new W 51 _⟩, hN.f22, hN.f24, hN.f25, fun e => absurd (hN.f39 e).1.2.2.1 (by simp), hN.f40, hN.below⟩
        have HT2 := Lib.hid hT2
        clear hN hT2 hb hNF
        refine wpOp_of rfl (by rfl) ?_
        go_simp
        first | refine ⟨HT2.out, ?_⟩ | refine ⟨fun _ => HT2.out, ?_⟩
        exact ⟨b7, b12, true, true, b22, b24, b25, b39, b40, y32, y37, (.slice (some ⟨g15, 0, none⟩) 2 2), (.slice (some ⟨W.heap.size, 0, none⟩) 2 2), y47, y49, y50, y64, y13, rfl, rfl, by unfold cnt at hm ⊢; simp only [Bool.not_false, Bool.not_true, Bool.toNat_true, Bool.toNat_false] at hm ⊢; omega, HQ.out, HT2.out⟩
      · obtain ⟨rfl, rfl⟩ := h
        have hb := (Below.refl W.heap.size W).alloc (Nat.le_refl _) (.cells #[.int .i64 b, .int .i64 a, .int .i64 n, .int .i64 b] 53)
        have hN := hNF.up hb
        have hT2 := HTM2.out.alloc (.cells #[.int .i64 b, .int .i64 a, .int .i64 n, .int .i64 b] 53)
        have HQ : Hid (NF w (W.alloc (.cells #[.int .i64 b, .int .i64 a, .int .i64 n, .int .i64 b] 53)) n a b t0 t1 t2 t3 fx fy b7 b12 b15 b16 true b24 b25 b39 b40 y32 y37 y40 y41 (.slice (some ⟨W.heap.size, 0, none⟩) 1 1) y49 y50 y64 y13) := ⟨hN.f7, hN.f12, hN.f15, hN.f16, fun _ => ⟨_, rfl, Row.new W 53 _⟩, hN.f24, hN.f25, fun e => absurd (hN.f39 e).1.2.2.2.1 (by simp), hN.f40, hN.below⟩
        have HT2 := Lib.hid hT2
        clear hN hT2 hb hNF
        refine wpOp_of rfl (by rfl) ?_
        go_simp
        first | refine ⟨HT2.out, ?_⟩ | refine ⟨fun _ => HT2.out, ?_⟩
        exact ⟨b7, b12, b15, b16, true, b24, b25, b39, b40, y32, y37, y40, y41, (.slice (some ⟨W.heap.size, 0, none⟩) 1 1), y49, y50, y64, y13, rfl, rfl, by unfold cnt at hm ⊢; simp only [Bool.not_false, Bool.not_true, Bool.toNat_true, Bool.toNat_false] at hm ⊢; omega, HQ.out, HT2.out⟩
      · obtain ⟨rfl, rfl⟩ := h
        have hb := (Below.refl W.heap.size W).alloc (Nat.le_refl _) (.cells #[.int .i64 n] 3)
        have hN := hNF.up hb
        have hT2 := HTM2.out.alloc (.cells #[.int .i64 n] 3)
        have HQ : Hid (NF w (W.alloc (.cells #[.int .i64 n] 3)) n a b t0 t1 t2 t3 fx fy b7 b12 b15 b16 b22 true b25 b39 b40 y32 y37 y40 y41 y47 (.slice (some ⟨W.heap.size, 0, none⟩) 1 1) y50 y64 y13) := ⟨hN.f7, hN.f12, hN.f15, hN.f16, hN.f22, fun _ => ⟨_, rfl, Row.new W 3 _⟩, fun e => absurd (hN.f25 e).1 (by simp), hN.f39, hN.f40, hN.below⟩
        have HT2 := Lib.hid hT2
        clear hN hT2 hb hNF
        refine wpOp_of rfl (by rfl) ?_
        go_simp
        first | refine ⟨HT2.out, ?_⟩ | refine ⟨fun _ => HT2.out, ?_⟩
        exact ⟨b7, b12, b15, b16, b22, true, b25, b39, b40, y32, y37, y40, y41, y47, (.slice (some ⟨W.heap.size, 0, none⟩) 1 1), y50, y64, y13, rfl, rfl, by unfold cnt at hm ⊢; simp only [Bool.not_false, Bool.not_true, Bool.toNat_true, Bool.toNat_false] at hm ⊢; omega, HQ.out, HT2.out⟩
      · obtain ⟨⟨rfl, rfl⟩, rfl⟩ := h
        obtain ⟨g24, rfl, -⟩ := hNF.f24 rfl
        have hb := (Below.refl W.heap.size W).alloc (Nat.le_refl _) (.cells #[.slice (some ⟨g24, 0, none⟩) 1 1] 51)
        have hN := hNF.up hb
        have hT2 := HTM2.out.alloc (.cells #[.slice (some ⟨g24, 0, none⟩) 1 1] 51)
        have HQ : Hid (NF w (W.alloc (.cells #[.slice (some ⟨g24, 0, none⟩) 1 1] 51)) n a b t0 t1 t2 t3 fx fy b7 b12 b15 b16 b22 true true b39 b40 y32 y37 y40 y41 y47 (.slice (some ⟨g24, 0, none⟩) 1 1) (.slice (some ⟨W.heap.size, 0, none⟩) 1 1) y64 y13) := ⟨hN.f7, hN.f12, hN.f15, hN.f16, hN.f22, hN.f24, fun _ => ⟨rfl, _, rfl, Row.new W 51 _⟩, fun e => absurd (hN.f39 e).1.2.2.2.2 (by simp), hN.f40, hN.below⟩
        have HT2 := Lib.hid hT2
        clear hN hT2 hb hNF
        refine wpOp_of rfl (by rfl) ?_
        go_simp
        first | refine ⟨HT2.out, ?_⟩ | refine ⟨fun _ => HT2.out, ?_⟩
        exact ⟨b7, b12, b15, b16, b22, true, true, b39, b40, y32, y37, y40, y41, y47, (.slice (some ⟨g24, 0, none⟩) 1 1), (.slice (some ⟨W.heap.size, 0, none⟩) 1 1), y64, y13, rfl, rfl, by unfold cnt at hm ⊢; simp only [Bool.not_false, Bool.not_true, Bool.toNat_true, Bool.toNat_false] at hm ⊢; omega, HQ.out, HT2.out⟩
      · obtain ⟨⟨⟨⟨⟨⟨rfl, rfl⟩, rfl⟩, rfl⟩, rfl⟩, rfl⟩, rfl⟩ := h
        obtain ⟨g7, rfl, -⟩ := hNF.f7 rfl
        obtain ⟨g12, rfl, -⟩ := hNF.f12 rfl
        obtain ⟨-, g16, rfl, -⟩ := hNF.f16 rfl
        obtain ⟨g22, rfl, -⟩ := hNF.f22 rfl
        obtain ⟨-, g25, rfl, -⟩ := hNF.f25 rfl
        have hN := hNF
        have hT2 := HTM2.out
        have HQ : Hid (NF w W n a b t0 t1 t2 t3 fx fy true true b15 true true b24 true true b40 (.slice (some ⟨g7, 0, none⟩) 1 1) (.slice (some ⟨g12, 0, none⟩) 1 1) y40 (.slice (some ⟨g16, 0, none⟩) 2 2) (.slice (some ⟨g22, 0, none⟩) 1 1) y49 (.slice (some ⟨g25, 0, none⟩) 1 1) (.agg #[.slice (some ⟨g7, 0, none⟩) 1 1, .slice (some ⟨g12, 0, none⟩) 1 1, .slice (some ⟨g16, 0, none⟩) 2 2, .slice (some ⟨g22, 0, none⟩) 1 1, .slice (some ⟨g25, 0, none⟩) 1 1, .int .i64 b, .int .i64 t0, .int .i64 t1, .int .i64 t2, .int .i64 t3]) y13) := ⟨hN.f7, hN.f12, hN.f15, hN.f16, hN.f22, hN.f24, hN.f25, fun _ => ⟨⟨rfl, rfl, rfl, rfl, rfl⟩, rfl⟩, hN.f40, hN.below⟩
        have HT2 := Lib.hid hT2
        clear hN hT2 hNF
        refine wpOp_of rfl (by rfl) ?_
        go_simp
        first | refine ⟨HT2.out, ?_⟩ | refine ⟨fun _ => HT2.out, ?_⟩
        exact ⟨true, true, b15, true, true, b24, true, true, b40, (.slice (some ⟨g7, 0, none⟩) 1 1), (.slice (some ⟨g12, 0, none⟩) 1 1), y40, (.slice (some ⟨g16, 0, none⟩) 2 2), (.slice (some ⟨g22, 0, none⟩) 1 1), y49, (.slice (some ⟨g25, 0, none⟩) 1 1), (.agg #[.slice (some ⟨g7, 0, none⟩) 1 1, .slice (some ⟨g12, 0, none⟩) 1 1, .slice (some ⟨g16, 0, none⟩) 2 2, .slice (some ⟨g22, 0, none⟩) 1 1, .slice (some ⟨g25, 0, none⟩) 1 1, .int .i64 b, .int .i64 t0, .int .i64 t1, .int .i64 t2, .int .i64 t3]), y13, rfl, rfl, by unfold cnt at hm ⊢; simp only [Bool.not_false, Bool.not_true, Bool.toNat_true, Bool.toNat_false] at hm ⊢; omega, HQ.out, HT2.out⟩
      · obtain ⟨rfl, rfl⟩ := h
        have hsz := hNF.below.size
        have hb := (Below.refl W.heap.size W).alloc (Nat.le_refl _) (.cells #[.slice none 0 0, .slice none 0 0, .slice none 0 0, .slice none 0 0, .slice none 0 0, .int .i64 0, .int .i64 0, .int .i64 0, .int .i64 0, .int .i64 0] 33)
        have hN := hNF.up hb
        have hT2 := HTM2.out.alloc (.cells #[.slice none 0 0, .slice none 0 0, .slice none 0 0, .slice none 0 0, .slice none 0 0, .int .i64 0, .int .i64 0, .int .i64 0, .int .i64 0, .int .i64 0] 33)
        have HQ : Hid (NF w (W.alloc (.cells #[.slice none 0 0, .slice none 0 0, .slice none 0 0, .slice none 0 0, .slice none 0 0, .int .i64 0, .int .i64 0, .int .i64 0, .int .i64 0, .int .i64 0] 33)) n a b t0 t1 t2 t3 fx fy b7 b12 b15 b16 b22 b24 b25 b39 true y32 y37 y40 y41 y47 y49 y50 y64 (.pointer (some ⟨W.heap.size, 0, none⟩))) := ⟨hN.f7, hN.f12, hN.f15, hN.f16, hN.f22, hN.f24, hN.f25, hN.f39, fun _ => ⟨_, rfl, hsz, Row.new W 33 _⟩, hN.below⟩
        have HT2 := Lib.hid hT2
        clear hN hT2 hb hNF
        refine wpOp_of rfl (by rfl) ?_
        go_simp
        first | refine ⟨HT2.out, ?_⟩ | refine ⟨fun _ => HT2.out, ?_⟩
        exact ⟨b7, b12, b15, b16, b22, b24, b25, b39, true, y32, y37, y40, y41, y47, y49, y50, y64, (.pointer (some ⟨W.heap.size, 0, none⟩)), rfl, rfl, by unfold cnt at hm ⊢; simp only [Bool.not_false, Bool.not_true, Bool.toNat_true, Bool.toNat_false] at hm ⊢; omega, HQ.out, HT2.out⟩
      · obtain ⟨rfl, ⟨⟨⟨⟨⟨⟨⟨⟨rfl, rfl⟩, rfl⟩, rfl⟩, rfl⟩, rfl⟩, rfl⟩, rfl⟩, rfl⟩⟩ := h
        simp [cnt] at hm
  case rest =>
  obtain ⟨n13, y32, y37, y41, y47, y50, rfl, HC⟩ := hcut
  obtain ⟨hrow, ⟨y40, y49, y64, y13, hnf⟩, hg13⟩ := HC.out
  have hfive := nf_five hnf HFX.out.1 HFX.out.2
  have hbel := hnf.below
  obtain ⟨g7, rfl, hr7⟩ := hnf.f7 rfl
  obtain ⟨g12, rfl, -⟩ := hnf.f12 rfl
  obtain ⟨-, g16, rfl, -⟩ := hnf.f16 rfl
  obtain ⟨g22, rfl, -⟩ := hnf.f22 rfl
  obtain ⟨-, g25, rfl, -⟩ := hnf.f25 rfl
  have c7 := hr7.cell 0
  simp only [List.getElem?_toArray, List.getElem?_cons_zero] at c7
  have HR := Lib.hid hrow; have HF := Lib.hid hfive; have HB := Lib.hid hbel; have HC7 := Lib.hid c7
  clear hrow hnf hg13 hfive hbel hr7 c7 HC HTM hX hY hXw hYw hfx hfy l0 l1 l2 l3 m1 m2 m3 HA HQ5
  obtain ⟨W1, hW1⟩ : ∃ z, z = wc := ⟨_, rfl⟩
  subst hW1
  obtain ⟨L, hLL⟩ : ∃ L, (LX X Y n a b t0 t1 t2 t3) = L := ⟨_, rfl⟩
  have f0 := HR.out.cell 0
  have f1 := HR.out.cell 1
  have f2 := HR.out.cell 2
  have f3 := HR.out.cell 3
  have f4 := HR.out.cell 4
  have f5 := HR.out.cell 5
  have f6 := HR.out.cell 6
  have f7 := HR.out.cell 7
  have f8 := HR.out.cell 8
  have f9 := HR.out.cell 9
  simp only [List.getElem?_toArray, List.getElem?_cons_zero, List.getElem?_cons_succ] at f0 f1 f2 f3 f4 f5 f6 f7 f8 f9
  go_wp2_with fail
  refine (encode_any W1 _ (LX X Y n a b t0 t1 t2 t3) (IsLay.v ⟨_, _, _, _, _, rfl, HF.out⟩) (lx_modest HXB.out)).mono ?_
  rintro e W2 ⟨v2, rfl, ho2, hb2⟩
  have HDEC := Lib.hid (dec_enc (LX X Y n a b t0 t1 t2 t3) (lx_room HXB.out))
  have HQS : Hid (∀ z ∈ closed (pack (enc (LX X Y n a b t0 t1 t2 t3))), z < 256) := closed_small (pack_small _)
  have HQL : Hid ((closed (pack (enc (LX X Y n a b t0 t1 t2 t3)))).length ≤ 600) := by show _ ≤ _; rw [closed_length]; have := lx_bytes X Y n a b t0 t1 t2 t3; omega
  obtain ⟨q, hq⟩ : ∃ q, closed (pack (enc (LX X Y n a b t0 t1 t2 t3))) = q := ⟨_, rfl⟩
  rw [hq] at HDEC HQS HQL ho2
  have HQE := Lib.hid hq
  have HO2 := Lib.hid (Rd.of_own ho2)
  have HB2 := Lib.hid (HB.out.trans (hb2.mono HB.out.size))
  have HR2 := Lib.hid (Below.row hb2 HR.out HR.out.lt)
  have HF2 := Lib.hid (five_up HF.out hb2)
  have HC2 := Lib.hid (cell_up HC7.out hb2)
  obtain ⟨A2, c2, hv2⟩ := own_slice ho2
  subst hv2
  clear f0 f1 f2 f3 f4 f5 f6 f7 f8 f9
  clear hq ho2 hb2 HB HR HF HC7 hLL
  obtain ⟨ql, hql⟩ : ∃ z, q.length = z := ⟨_, rfl⟩
  rw [hql] at HO2 ⊢
  clear hql
  go_wp2_with fail
  refine (decode_any W2 _ q HO2.out HQS.out (by have := HQL.out; omega)).mono ?_
  rintro e W3 ⟨V3, rfl, hv3, hb3⟩
  rw [HDEC.out] at hv3 ⊢
  obtain ⟨vN, vS, vP, vQ, vR, ps, hV, hdat⟩ := hv3
  obtain ⟨⟨mA, mc, rfl⟩, ⟨A1, c1, rfl⟩, ⟨A5, c5, rfl⟩, ⟨A3, c3, rfl⟩, ⟨A4, c4, rfl⟩⟩ := hdat.slices
  subst hV
  rw [show (lows (LX X Y n a b t0 t1 t2 t3)).nodes.length = 1 from rfl] at hdat ⊢
  have hps : ps.length = 1 := hdat.f.1
  obtain ⟨p0, rfl⟩ : ∃ p, ps = [p] := List.length_eq_one_iff.1 hps
  have hfl : Fl 0 p0.1 X ∧ Fl 0 p0.2 Y := hdat.f.2 0 (by simp) (by rw [show (lows (LX X Y n a b t0 t1 t2 t3)).nodes = [(X, Y)] from rfl]; simp)
  obtain ⟨bm, om, hmA, -, hcm⟩ := hdat.n.at (nvals_get [p0] 0 (by simp))
  subst hmA
  rw [Nat.add_zero] at hcm
  simp only [List.getElem_cons_zero] at hcm
  obtain ⟨fx2, fy2⟩ := p0
  simp only at hfl hcm
  have ce1 := fl_eq_true hfl.1 HFX.out.1 rfl
  have ce2 := fl_eq_true hfl.2 HFX.out.2 rfl
  have HCM := Lib.hid hcm
  clear hdat hps hfl hcm
  generalize (lows (LX X Y n a b t0 t1 t2 t3)).secs.length = k1 at *
  generalize (lows (LX X Y n a b t0 t1 t2 t3)).parts.length = k2 at *
  generalize (lows (LX X Y n a b t0 t1 t2 t3)).points.length = k3 at *
  generalize (lows (LX X Y n a b t0 t1 t2 t3)).routes.length = k4 at *
  generalize (lows (LX X Y n a b t0 t1 t2 t3)).speed = u0 at *
  generalize (lows (LX X Y n a b t0 t1 t2 t3)).mute = u1 at *
  generalize (lows (LX X Y n a b t0 t1 t2 t3)).wait = u2 at *
  generalize (lows (LX X Y n a b t0 t1 t2 t3)).cancel = u3 at *
  generalize (lows (LX X Y n a b t0 t1 t2 t3)).stay = u4 at *
  have hb4 := (Below.refl W3.heap.size W3).alloc (Nat.le_refl _) (.cells #[.slice (some ⟨bm, om, none⟩) 1 mc, .slice A1 k1 c1, .slice A5 k2 c5, .slice A3 k3 c3, .slice A4 k4 c4, .int .i64 u0, .int .i64 u1, .int .i64 u2, .int .i64 u3, .int .i64 u4] 33)
  have hbb := hb3.trans (hb4.mono hb3.size)
  have r15 := (Row.new W3 33 #[.slice (some ⟨bm, om, none⟩) 1 mc, .slice A1 k1 c1, .slice A5 k2 c5, .slice A3 k3 c3, .slice A4 k4 c4, .int .i64 u0, .int .i64 u1, .int .i64 u2, .int .i64 u3, .int .i64 u4]).cell 0
  simp only [List.getElem?_toArray, List.getElem?_cons_zero] at r15
  obtain ⟨n15, hn15⟩ : ∃ z, z = W3.heap.size := ⟨_, rfl⟩
  rw [← hn15] at r15
  have H4 : Hid (Two13 w (W3.alloc (.cells #[.slice (some ⟨bm, om, none⟩) 1 mc, .slice A1 k1 c1, .slice A5 k2 c5, .slice A3 k3 c3, .slice A4 k4 c4, .int .i64 u0, .int .i64 u1, .int .i64 u2, .int .i64 u3, .int .i64 u4] 33)) X Y n a b t0 t1 t2 t3 fx fy fx2 fy2 n13 n15 g7 g12 g16 g22 g25 bm om mc) := ⟨Below.row hbb HR2.out HR2.out.lt, five_up HF2.out hbb, r15, cell_up HC2.out hbb, cell_alloc HCM.out, HB2.out.trans (hbb.mono HB2.out.size)⟩
  have HO4 := Lib.hid (HO2.out.up hbb)
  have HN15 := Lib.hid hn15
  clear hb3 hb4 hbb r15 HR2 HF2 HC2 HB2 HO2 HCM hn15
  have HMOD := Lib.hid (lx_modest (n := n) (a := a) (b := b) (t0 := t0) (t1 := t1) (t2 := t2) (t3 := t3) HXB.out)
  have HQ6 : Hid (q.length ≤ 4000 ∧ q.length ≤ 10000000) := by have := HQL.out; exact ⟨by omega, by omega⟩
  go_upto_region 6 with (fail)
  rw [← HN15.out]
  generalize W3.alloc (.cells #[.slice (some ⟨bm, om, none⟩) 1 mc, .slice A1 k1 c1, .slice A5 k2 c5, .slice A3 k3 c3, .slice A4 k4 c4, .int .i64 u0, .int .i64 u1, .int .i64 u2, .int .i64 u3, .int .i64 u4] 33) = W4 at *
  have H0 : Hid (Two13 w W4.drew X Y n a b t0 t1 t2 t3 fx fy fx2 fy2 n13 n15 g7 g12 g16 g22 g25 bm om mc) := H4.out.up ⟨rfl, rfl, rfl, Nat.le_refl _, fun _ _ => rfl⟩
  have HO0 : Hid (Rd W4.drew W4.drew.heap.size (.slice A2 ql c2) (bvals q)) := HO4.out
  clear H4 HO4
  have s0 := H0.out.cells
  go_region_held3 (fun w' => w'.cell? ⟨n13, 0, none⟩ = some (.slice (some ⟨g7, 0, none⟩) 1 1) ∧ w'.cell? ⟨n13, 1, none⟩ = some (.slice (some ⟨g12, 0, none⟩) 1 1) ∧ w'.cell? ⟨n13, 2, none⟩ = some (.slice (some ⟨g16, 0, none⟩) 2 2) ∧ w'.cell? ⟨n13, 3, none⟩ = some (.slice (some ⟨g22, 0, none⟩) 1 1) ∧ w'.cell? ⟨n13, 4, none⟩ = some (.slice (some ⟨g25, 0, none⟩) 1 1) ∧ w'.cell? ⟨n13, 5, none⟩ = some (.int .i64 b) ∧ w'.cell? ⟨n13, 6, none⟩ = some (.int .i64 t0) ∧ w'.cell? ⟨n13, 7, none⟩ = some (.int .i64 t1) ∧ w'.cell? ⟨n13, 8, none⟩ = some (.int .i64 t2) ∧ w'.cell? ⟨n13, 9, none⟩ = some (.int .i64 t3) ∧ w'.cell? ⟨n15, 0, none⟩ = some (.slice (some ⟨bm, om, none⟩) 1 mc) ∧ w'.cell? ⟨g7, 0, none⟩ = some (.complex .f64 fx fy) ∧ w'.cell? ⟨bm, om, none⟩ = some (.complex .f64 fx2 fy2)) (first | exact s3 | exact s2 | exact s1 | exact s0 | go_keep) (first | (go_at_call 15; (with_reducible refine (refEncode_any W4.drew _ (LX X Y n a b t0 t1 t2 t3) H0.out.lay HMOD.out).mono ?_); rintro e v1 ⟨vr, rfl, hor, hb⟩; rw [HQE.out] at hor; have H1 : Hid (Two13 w v1 X Y n a b t0 t1 t2 t3 fx fy fx2 fy2 n13 n15 g7 g12 g16 g22 g25 bm om mc) := H0.out.up hb; have s1 := H1.out.cells; have HO1 := Lib.hid (HO0.out.up hb); have HP1 := Lib.hid (Rd.of_own hor); clear hb hor) | (go_at_call 14; (with_reducible refine (refBytes_true v1 v1.heap.size _ vr q HO1.out HP1.out HQ6.out.2).mono ?_); rintro e v2 ⟨rfl, nn, hw⟩; have hb := drewN_below hw; have H2 : Hid (Two13 w v2 X Y n a b t0 t1 t2 t3 fx fy fx2 fy2 n13 n15 g7 g12 g16 g22 g25 bm om mc) := H1.out.up hb; have s2 := H2.out.cells; have HO2 := Lib.hid (HO1.out.up hb); clear hb hw) | (go_at_call 18; (with_reducible refine (reads_any v2 _ q HO2.out HQS.out HQ6.out.1).mono ?_); rintro e v3 ⟨rfl, hb⟩; have H3 : Hid (Two13 w v3 X Y n a b t0 t1 t2 t3 fx fy fx2 fy2 n13 n15 g7 g12 g16 g22 g25 bm om mc) := H2.out.up hb; have s3 := H3.out.cells; clear hb))
  go_wp2_with fail
  go_ret
  exact ⟨rfl, H3.out.below⟩

theorem lifted (os : Os) (started : os.Started) (H : Type) (enc : TypeId × Value → H) :
    ReturnsInHanded {} Try.checked os 6 .any (Rows.layoutNumbersSpec.pre6 enc Try.prog Try.f6 Rows.layoutNumbersRow.domain false) (Rows.layoutNumbersSpec.post enc Try.prog Try.f6 false true false false) := by
  refine returnsInHanded_of_change (C := Try.checked) own started (by kernel_rfl) Try.func6
    (ChangeSpec.witness6 (enc := enc) (C := Try.checked) false ⟨#[], #[.int .i32 0, .int .i32 0, .int .i64 0, .int .i64 0, .int .i64 0, .slice none 0 0], []⟩ 8 (by kernel_rfl) (by kernel_rfl) (by kernel_rfl) (by kernel_rfl)) ?_
  intro W base args ds gs before hval0 hW hcnd _
  have hval : ∀ (j : Nat) t v, Try.f6.params[j]? = some t → args[j]? = some v → Value.okWide Try.prog W .any base t v := hval0
  have hW' := hW
  obtain ⟨p, q, hA0, hV, rfl, hfz, hnd⟩ := hW
  have hA : DataW.TrodAll enc Try.prog W 0 (fun _ => true) true Try.f6.params.toList args.toList ds p := hA0
  rw [Try.params6] at hA hval
  obtain ⟨v0, vs0, d0, ds0, p0, q0, hargs, rfl, rfl, h0, r0⟩ := trodAll_cons hA
  obtain ⟨v1, vs1, d1, ds1, p1, q1, rfl, rfl, rfl, h1, r1⟩ := trodAll_cons r0
  obtain ⟨v2, vs2, d2, ds2, p2, q2, rfl, rfl, rfl, h2, r2⟩ := trodAll_cons r1
  obtain ⟨v3, vs3, d3, ds3, p3, q3, rfl, rfl, rfl, h3, r3⟩ := trodAll_cons r2
  obtain ⟨v4, vs4, d4, ds4, p4, q4, rfl, rfl, rfl, h4, r4⟩ := trodAll_cons r3
  obtain ⟨v5, vs5, d5, ds5, p5, q5, rfl, rfl, rfl, h5, r5⟩ := trodAll_cons r4
  obtain ⟨rfl, rfl, rfl⟩ := trodAll_nil r5
  obtain rfl : args = #[v0, v1, v2, v3, v4, v5] := by cases args; simp_all
  obtain ⟨rfl, rfl⟩ := trodVars_none hV
  obtain ⟨a0, rfl, rfl, rfl, w0⟩ := open_int Try.underlying21 (hval 0 21 v0 rfl rfl) h0
  obtain ⟨a1, rfl, rfl, rfl, w1⟩ := open_int Try.underlying21 (hval 1 21 v1 rfl rfl) h1
  obtain ⟨a2, rfl, rfl, rfl, w2⟩ := open_int Try.underlying3 (hval 2 3 v2 rfl rfl) h2
  obtain ⟨a3, rfl, rfl, rfl, w3⟩ := open_int Try.underlying3 (hval 3 3 v3 rfl rfl) h3
  obtain ⟨a4, rfl, rfl, rfl, w4⟩ := open_int Try.underlying3 (hval 4 3 v4 rfl rfl) h4
  obtain ⟨a5, len5, cap5, rfl⟩ := okWide_slice Try.underlying46 (hval 5 46 v5 rfl rfl)
  have k5 := h5
  have lt5 : ∀ x ∈ p5, x.block < W.heap.size := by obtain ⟨m, hm⟩ := k5; exact DataW.trod_lt m _ _ _ hm
  obtain ⟨z5, w5⟩ : ∃ zs, IsRow .i64 W a5 len5 cap5 zs := by
    obtain ⟨fuel, hf⟩ := h5
    rcases open_ints Try.underlying46 Try.underlying2 (by kernel_rfl) hf with ⟨hcs, _⟩ | ⟨x, l, c, zs, hcs, _, hl, hm, hz, _, hcell, hwz⟩
    · simp [Value.cells] at hcs
      obtain ⟨rfl, rfl, rfl⟩ := hcs
      exact ⟨[], .inl ⟨rfl, rfl, rfl, rfl⟩⟩
    · simp [Value.cells] at hcs
      obtain ⟨rfl, rfl, rfl⟩ := hcs
      exact ⟨zs, .inr ⟨_, rfl, hl, hm, by simpa using hz, hcell, hwz⟩⟩
  clear hA0 hval0
  refine (walk a0 a1 a2 a3 a4 a5 len5 cap5 z5 W w0 w1 w2 w3 w4 w5).mono fun e W' ⟨he, bel⟩ => ?_
  subst he
  exact ⟨_, rfl, _, _, _, [], _, [], hW', trodAll_mk1 (shut_bool Try.underlying4 _), (trodAll_cons_mk (shut_int Try.underlying21 w0) (trodAll_cons_mk (shut_int Try.underlying21 w1) (trodAll_cons_mk (shut_int Try.underlying3 w2) (trodAll_cons_mk (shut_int Try.underlying3 w3) (trodAll_cons_mk (shut_int Try.underlying3 w4) (trodAll_cons_mk (Below.trod laidOut (by kernel_rfl) (of_decide_eq_true (by kernel_rfl)) k5 bel lt5) trodAll_mk0)))))), rfl, bel.frame _, fun h => by cases h⟩

theorem over : Rows.layoutNumbersRow.holds Try.pinned (OpenSpec.ofChange Rows.layoutNumbersSpec) :=
  OpenClaim.holds_of_wide 6 Try.f6 rfl rfl rfl rfl rfl rfl rfl ⟨rfl, rfl, rfl, rfl, rfl⟩ rfl rfl rfl rfl rfl (by kernel_rfl) Try.func6 (by kernel_rfl)
    (of_decide_eq_true (by kernel_rfl)) (by unfold Func.isWrapper; first | (rw [if_pos (by decide +kernel)]; kernel_rfl) | (rw [if_neg (by decide +kernel)]; exact ⟨rfl, rfl⟩))
    (fun os started H enc _ => lifted os started H enc)

theorem proved : Rows.LayoutNumbersSaid := over
#print axioms proved
end Go.Proofs.Ythpfhcelmddjlaa.layoutNumbers
