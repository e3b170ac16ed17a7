/- Contracts: Meets, of the program and of the document. -/
import Derived.Test.YtblbbdkpebacbaaDoorK
import Derived.Test.YtblbbdkpebacbaaDoorJMath
import Derived.Test.YtblbbdkpebacbaaDoorLHead
import Derived.Maps.OwnSet
namespace Go.Proofs.YtblbbdkpebacbaaDoor
open Go.RowKit Fl Go.Maps
set_option maxRecDepth 100000

theorem keyed3 : Keyed Tryd.prog 3 := int_keyed Tryd.underlying3
theorem key3 {n : Int} (h : (Lit.int .i64 n).wf = true) : keyOf Tryd.prog 3 (.int .i64 n) = some (.int .i64 n) := keyOf_int_mk Tryd.underlying3 h
def HasL {H : Type} (D : DataW H) (o : List Int) : Prop := ∀ x, Maps.has D (.int .i64 x) = o.contains x
theorem HasL.nil {H : Type} : HasL (.map [] : DataW H) [] := fun _ => rfl
theorem HasL.put {H : Type} {D : DataW H} {o : List Int} (h : HasL D o) (hD : IsMap D) (n : Int) (d : DataW H) : HasL (D.put (.int .i64 n) d) (o ++ [n]) := fun x => by
  by_cases e : x = n
  · subst e
    rw [has_put_same (k := .int .i64 x) hD (show WideAt.IsKeyLit (.int .i64 x) from trivial) d]
    exact (List.contains_iff_mem.2 (by simp)).symm
  · rw [has_put_other (fun c => e (by injection c)), h x, Bool.eq_iff_iff, List.contains_iff_mem, List.contains_iff_mem]
    simp [e]
theorem below_map {H : Type} {w w' : World} {P : Program} {k : TypeId} {R : Value → Option (DataW H × List MemPlace)} {b m B : Nat} {D : DataW H} (hm : w.ownsMap P k R b m D) (hb : Below B w w') (hB : b < B) : w'.ownsMap P k R b m D := by
  obtain ⟨es, clock, h, r⟩ := hm
  exact ⟨es, clock, (hb.block b hB).trans h, r⟩

/-- Which one of the second list is the first that is in the first list. -/
def findA (a b : List Int) : Option Nat := b.findIdx? (fun z => a.contains z)
theorem findA_at {a b : List Int} {i : Nat} (hi : i < b.length) (h : a.contains b[i] = true) (hb : ∀ j (hj : j < b.length), j < i → a.contains b[j] = false) : findA a b = some i := by
  unfold findA
  rw [List.findIdx?_eq_some_iff_getElem]
  exact ⟨hi, h, fun j hj => by rw [hb j (by omega) hj]; decide⟩
theorem findA_none {a b : List Int} (hb : ∀ j (hj : j < b.length), a.contains b[j] = false) : findA a b = none := by
  unfold findA
  rw [List.findIdx?_eq_none_iff]
  intro x hx
  obtain ⟨j, hj, rfl⟩ := List.getElem_of_mem hx
  exact hb j hj
/-- Have both lists something in common? -/
def meetsB (a b : List Int) : Bool := b.any (fun z => a.contains z)
theorem meets_comm (a b : List Int) : meetsB a b = meetsB b a := by
  unfold meetsB
  rw [Bool.eq_iff_iff, List.any_eq_true, List.any_eq_true]
  constructor
  · rintro ⟨x, h1, h2⟩; exact ⟨x, List.contains_iff_mem.1 h2, List.contains_iff_mem.2 h1⟩
  · rintro ⟨x, h1, h2⟩; exact ⟨x, List.contains_iff_mem.1 h2, List.contains_iff_mem.2 h1⟩
theorem findA_meets (a b : List Int) : decide (0 ≤ idxI (findA a b)) = meetsB a b := by
  cases h : findA a b with
  | none =>
    have h2 : meetsB a b = false := by
      unfold findA at h
      rw [List.findIdx?_eq_none_iff] at h
      unfold meetsB
      rw [List.any_eq_false]
      intro x hx; rw [h x hx]; decide
    rw [h2]; rfl
  | some i =>
    have h2 : meetsB a b = true := by
      unfold findA at h
      rw [List.findIdx?_eq_some_iff_getElem] at h
      obtain ⟨hi, hc, -⟩ := h
      unfold meetsB
      rw [List.any_eq_true]
      exact ⟨b[i], List.getElem_mem hi, hc⟩
    rw [h2]
    exact decide_eq_true (by show (0 : Int) ≤ (i : Int); omega)

end Go.Proofs.YtblbbdkpebacbaaDoor
