/- A []byte that came in, read as bytes. -/
import Derived.Test.YthpfhcelmddjlaaKnown
import Derived.OpenShut
namespace Go.Proofs.Ythpfhcelmddjlaa
open Go.RowKit

theorem cell_lt {w : World} {a : Addr} {v : Value} (h : w.cell? a = some v) : a.block < w.heap.size := by
  rcases Nat.lt_or_ge a.block w.heap.size with c | c
  · exact c
  · have : w.heap[a.block]? = none := Array.getElem?_eq_none c
    simp [World.cell?, this] at h

theorem arg_some {w : World} {x : Addr} {len cap : Nat} {zs : List Int} (hl : len ≤ cap) (hz : zs.length = cap) (hc : ∀ i, i < zs.length → w.cell? (x.add i) = some (.int .u8 (zs.getD i 0))) (hwz : ∀ n ∈ zs, (Lit.int .u8 n).wf = true) :
    ∃ q : List Nat, q.length = len ∧ (∀ y ∈ q, y < 256) ∧ Rd w w.heap.size (.slice (some x) len cap) (bvals q) := by
  have hlen : ((zs.take len).map Int.toNat).length = len := by simp; omega
  have hb : ∀ n ∈ zs, 0 ≤ n ∧ n ≤ 255 := by
    intro n hn
    have := hwz n hn
    simp only [Lit.wf, Bool.and_eq_true, decide_eq_true_eq] at this
    rw [show IntKind.u8.min = 0 from by decide, show IntKind.u8.max = 255 from by decide] at this
    exact this
  refine ⟨(zs.take len).map Int.toNat, hlen, ?_, ⟨some x, cap, by rw [bvals_length, hlen], ⟨(fun h => by cases h), by rw [bvals_length, hlen]; exact hl⟩, fun hp => ?_⟩⟩
  · intro y hy
    rw [List.mem_map] at hy
    obtain ⟨n, hn, rfl⟩ := hy
    have := hb n (List.mem_of_mem_take hn)
    omega
  · rw [bvals_length, hlen] at hp
    obtain ⟨b, o, rfl, hc'⟩ := ints_at hc (by omega)
    refine ⟨b, o, rfl, cell_lt (hc' 0 (by omega)), fun j u hu => ?_⟩
    have hj : j < len := by have := (List.getElem?_eq_some_iff.1 hu).1; rw [bvals_length, hlen] at this; exact this
    rw [bvals_get _ _ (by rw [hlen]; exact hj)] at hu
    rw [hc' j (by omega), ← hu]
    have e : zs.getD j 0 = zs[j]'(by omega) := by simp [List.getD, show j < zs.length by omega]
    have h0 := hb (zs[j]'(by omega)) (List.getElem_mem _)
    rw [e]
    simp only [List.getElem_map, List.getElem_take]
    rw [Int.toNat_of_nonneg h0.1]

/-- What is known of bytes that came in. -/
theorem arg_any {w : World} {a : Option Addr} {len cap : Nat} {zs : List Int} (h : (a = none ∧ len = 0 ∧ cap = 0 ∧ zs = []) ∨
    ∃ x, a = some x ∧ len ≤ cap ∧ cap ≤ maxLen ∧ zs.length = cap ∧ (∀ i, i < zs.length → w.cell? (x.add i) = some (.int .u8 (zs.getD i 0))) ∧ ∀ n ∈ zs, (Lit.int .u8 n).wf = true) :
    ∃ q : List Nat, q.length = len ∧ (∀ y ∈ q, y < 256) ∧ Rd w w.heap.size (.slice a len cap) (bvals q) := by
  rcases h with ⟨rfl, rfl, rfl, rfl⟩ | ⟨x, rfl, hl, _, hz, hc, hwz⟩
  · exact ⟨[], rfl, fun _ h => by simp at h, Rd.empty _ _⟩
  · exact arg_some hl hz hc hwz

theorem Rd.up {w w' : World} {v : Value} {xs : List Value} (h : Rd w w.heap.size v xs) (hb : Below w.heap.size w w') : Rd w' w'.heap.size v xs :=
  h.mono hb.size fun _ hp => hb.cell hp

theorem row_next (w : World) (o : Obj) (t : TypeId) (cs : Array Value) : Row ((w.alloc o).alloc (.cells cs t)) (w.heap.size + 1) t cs := by
  have := Row.new (w.alloc o) t cs
  rw [World.size_alloc] at this
  exact this

theorem Rd.row {w : World} {g : Nat} {l : List Nat} (n : Nat) (hn : l.length = n) (h : Row w g 5 (bvals l).toArray) (hl : l.length ≤ 1000) : Rd w w.heap.size (.slice (some ⟨g, 0, none⟩) n n) (bvals l) := by
  subst hn
  exact Rd.of_own (own_of_row h (by omega) (Nat.le_refl _))

theorem chain3 {w wA w1 w2 : World} {o1 o2 : Obj} (hA : Below w.heap.size w wA) (h1 : Below ((wA.alloc o1).alloc o2).drew.heap.size ((wA.alloc o1).alloc o2).drew w1) (h2 : Below w1.heap.size w1 w2) : Below w.heap.size w w2 := by
  have a1 := (hA.alloc hA.size o1)
  have a2 := (a1.alloc a1.size o2).drew
  have a3 := a2.trans (h1.mono a2.size)
  exact a3.trans (h2.mono a3.size)

theorem chain2 {w wA w1 w2 : World} {o1 o2 : Obj} (hA : Below w.heap.size w wA) (h1 : Below (wA.alloc o1).drew.heap.size (wA.alloc o1).drew w1) (h2 : Below (w1.alloc o2).heap.size (w1.alloc o2) w2) : Below w.heap.size w w2 := by
  have a2 := (hA.alloc hA.size o1).drew
  have a3 := a2.trans (h1.mono a2.size)
  have a4 := a3.alloc a3.size o2
  exact a4.trans (h2.mono a4.size)

end Go.Proofs.Ythpfhcelmddjlaa
