/- The program's reader and the document's, side by side: one step of reading gives both the same. -/
import Derived.Test.YtnnfkehpoeehbaaIn
namespace Go.Proofs.Ytnnfkehpoeehbaa
open Go.RowKit

def cw (width : Int) : Nat := (min (max width 0) 64).toNat
def bad (q : List Nat) (rd : Nat) (fl : Bool) (width : Int) : Bool := fl || decide (8 * q.length - rd < cw width)
def resX (q : List Nat) (rd : Nat) (fl : Bool) (width : Int) : Nat := if bad q rd fl width then 0 else numTo q rd (cw width)
def resQ (q : List Nat) (rd : Nat) (fl : Bool) (width : Int) : List Nat := if bad q rd fl width then [] else q
def resR (q : List Nat) (rd : Nat) (fl : Bool) (width : Int) : Nat := if bad q rd fl width then 0 else rd + cw width
/-- What isn't read yet. -/
def rem (q : List Nat) (rd : Nat) : List Bool := (upto q q.length).drop rd

theorem rem_length (q : List Nat) (rd : Nat) : (rem q rd).length = 8 * q.length - rd := by unfold rem; rw [List.length_drop, upto_length]

theorem get_rem (q : List Nat) (rd j : Nat) (h : rd + j < 8 * q.length) : get (rem q rd) j = bitQ q (rd + j) := by
  rw [← get_upto q q.length (rd + j) h]
  unfold rem get
  rw [List.getD_eq_getElem?_getD, List.getD_eq_getElem?_getD, List.getElem?_drop]

theorem hor_rem (q : List Nat) (rd i : Nat) (h : rd + i ≤ 8 * q.length) : hor (rem q rd) 0 i = numTo q rd i := by
  induction i with
  | zero => rfl
  | succ i ih => rw [hor, numTo, ih (by omega), Nat.zero_add, get_rem q rd i (by omega)]

theorem endL_rem (q : List Nat) (rd : Nat) (fl : Bool) : endL (rem q rd) fl = endB q rd fl := by
  unfold endL endB
  rw [rem_length]
  congr 1
  rw [Bool.eq_iff_iff, List.all_eq_true, List.all_eq_true]
  constructor
  · intro h i hi
    have hi' := List.mem_range.1 hi
    rw [← get_rem q rd i (by omega)]; exact h i hi
  · intro h i hi
    have hi' := List.mem_range.1 hi
    rw [get_rem q rd i (by omega)]; exact h i hi

/-- A reader that has failed has nothing left. -/
def Fin (q : List Nat) (rd : Nat) (fl : Bool) : Prop := rd ≤ 8 * q.length ∧ q.length ≤ 60 ∧ (∀ x ∈ q, x < 256) ∧ (fl = true → q = [] ∧ rd = 0)

theorem Fin.next {q : List Nat} {rd : Nat} {fl : Bool} (h : Fin q rd fl) (width : Int) : Fin (resQ q rd fl width) (resR q rd fl width) (bad q rd fl width) := by
  obtain ⟨h1, h2, h3, h4⟩ := h
  unfold resQ resR
  cases hb : bad q rd fl width
  · simp only [Bool.false_eq_true, if_false]
    unfold bad at hb
    rw [Bool.or_eq_false_iff, decide_eq_false_iff_not] at hb
    exact ⟨by omega, h2, h3, fun h => by cases h⟩
  · simp only [if_true]
    exact ⟨by simp, by simp, fun _ h => by simp at h, fun _ => ⟨rfl, rfl⟩⟩

theorem prog_get (w : World) (B g : Nat) (q : List Nat) (rd : Nat) (fl : Bool) (width : Int) (h : Rr w B g q rd fl) (hf : Fin q rd fl) :
    Calls Try.prog 16 #[.pointer (some ⟨g, 0, none⟩), .int .i64 width] w fun e w' => e = .returned (.int .u64 (resX q rd fl width : Int)) ∧ Rr w' B g (resQ q rd fl width) (resR q rd fl width) (bad q rd fl width) ∧ Only g w w' := by
  obtain ⟨h1, h2, h3, h4⟩ := hf
  by_cases hs : 8 * q.length - rd < cw width
  · have hb : bad q rd fl width = true := by unfold bad; rw [decide_eq_true hs, Bool.or_true]
    unfold resX resQ resR
    rw [hb]
    exact get_short w B g q rd fl width h (by omega) h1 (by unfold cw at hs; omega)
  · have hb : bad q rd fl width = fl := by unfold bad; rw [decide_eq_false hs, Bool.or_false]
    have hl := get_long w B g q rd fl width h h3 (by omega) h1 (by unfold cw at hs; omega)
    cases fl with
    | false =>
      unfold resX resQ resR
      rw [hb]
      exact hl
    | true =>
      obtain ⟨rfl, rfl⟩ := h4 rfl
      have hc : cw width = 0 := by simp at hs; omega
      unfold resX resQ resR
      rw [hb]
      have hc' : (min (max width 0) 64).toNat = 0 := hc
      rw [hc'] at hl
      exact hl

theorem doc_get (w : World) (b0 g : Nat) (q : List Nat) (rd : Nat) (fl : Bool) (width : Int) (h : InS w b0 g (rem q rd) fl) (hf : Fin q rd fl) (hbg : b0 ≠ g) :
    Calls Try.prog 21 #[.pointer (some ⟨g, 0, none⟩), .int .i64 width] w fun e w' => e = .returned (.int .u64 (resX q rd fl width : Int)) ∧ InS w' b0 g (rem (resQ q rd fl width) (resR q rd fl width)) (bad q rd fl width) ∧ Only g w w' := by
  obtain ⟨h1, h2, h3, h4⟩ := hf
  have hl : (rem q rd).length ≤ 100000 := by rw [rem_length]; omega
  cases hb : bad q rd fl width with
  | true =>
    unfold resX resQ resR
    rw [hb]
    refine inGet_fail w b0 g (rem q rd) fl width h ?_ hl
    unfold bad at hb
    rcases Bool.or_eq_true_iff.1 hb with c | c
    · exact Or.inl c
    · right; rw [rem_length]; have := of_decide_eq_true c; unfold cw at this; omega
  | false =>
    unfold resX resQ resR
    rw [hb]
    unfold bad at hb
    rw [Bool.or_eq_false_iff, decide_eq_false_iff_not] at hb
    obtain ⟨rfl, hs⟩ := hb
    simp only [Bool.false_eq_true, if_false]
    have e1 : hor (rem q rd) 0 (cw width) = numTo q rd (cw width) := hor_rem q rd _ (by omega)
    have e2 : (rem q rd).drop (cw width) = rem q (rd + cw width) := by unfold rem; rw [List.drop_drop]
    rcases (by unfold cw; omega : (width = (cw width : Int) ∧ cw width ≤ 64) ∨ ((cw width : Int) = 64 ∧ 64 < width) ∨ (cw width = 0 ∧ width < 0)) with ⟨c1, c2⟩ | ⟨c1, c2⟩ | ⟨c1, c2⟩
    · have hg := inGet_in w b0 g (rem q rd) (cw width) h (by rw [rem_length]; omega) c2 hl hbg
      rw [e1, e2, ← c1] at hg
      exact hg
    · have hg := inGet_over w b0 g (rem q rd) (cw width) h (by rw [rem_length]; omega) c1 width c2 hl hbg
      rw [e1, e2] at hg
      exact hg
    · have hg := inGet_under w b0 g (rem q rd) h hbg width c2
      rw [c1]
      exact hg

theorem prog_flag (w : World) (B g : Nat) (q : List Nat) (rd : Nat) (fl : Bool) (h : Rr w B g q rd fl) (hf : Fin q rd fl) :
    Calls Try.prog 20 #[.pointer (some ⟨g, 0, none⟩)] w fun e w' => e = .returned (.bool ((resX q rd fl 1 : Int) == 1)) ∧ Rr w' B g (resQ q rd fl 1) (resR q rd fl 1) (bad q rd fl 1) ∧ Only g w w' := by
  have H := Lib.hid h; have HF := Lib.hid hf
  clear h hf
  go_enter Try.func20, Try.ntmps20
  go_wp2_with fail
  with_reducible refine (prog_get w B g q rd fl 1 H.out HF.out).mono ?_
  rintro e w' ⟨rfl, h1, h2⟩
  have H2 : Hid (Rr w' B g (resQ q rd fl 1) (resR q rd fl 1) (bad q rd fl 1) ∧ Only g w w') := ⟨h1, h2⟩
  clear h1 h2
  go_wp2_with fail
  go_ret
  exact ⟨rfl, H2.out⟩

theorem Only.row {g k : Nat} {w w' : World} (h : Only g w w') {t : TypeId} {cs : Array Value} (hr : Row w k t cs) (hk : k ≠ g) : Row w' k t cs := ((h w.heap.size).block k hr.lt hk).trans hr

theorem Only.cell {g : Nat} {w w' : World} (h : Only g w w') {p : Addr} {u : Value} (hp : p.block ≠ g) (hc : w.cell? p = some u) : w'.cell? p = some u := by
  rw [World.cell?_of_block (w := w) ((h w.heap.size).block p.block (cell_lt hc) hp)]; exact hc

theorem Only.rr {g g1 B : Nat} {w w' : World} {q : List Nat} {rd : Nat} {fl : Bool} {t : TypeId} {cs : Array Value} (h : Only g w w') (hr : Rr w B g1 q rd fl) (hg : Row w g t cs) (ht : (5 : TypeId) ≠ t) (hne : g1 ≠ g) : Rr w' B g1 q rd fl := by
  obtain ⟨v, r, o⟩ := hr
  exact ⟨v, h.row r hne, h.owns o hg ht⟩

theorem Only.ins {g b0 g3 : Nat} {w w' : World} {l : List Bool} {fl : Bool} (h : Only g w w') (hi : InS w b0 g3 l fl) (hg : g3 ≠ g) (hb : b0 ≠ g) : InS w' b0 g3 l fl := by
  obtain ⟨A, c, r, hlc, hx⟩ := hi
  refine ⟨A, c, h.row r hg, hlc, fun hp => ?_⟩
  obtain ⟨o, e, hc⟩ := hx hp
  exact ⟨o, e, fun j hj => h.cell (p := ⟨b0, o + j, none⟩) hb (hc j hj)⟩

end Go.Proofs.Ytnnfkehpoeehbaa
