/- A list of fields that came in. -/
import Derived.Test.YthnjilbfkfekhaaT1
namespace Go.Proofs.Ythnjilbfkfekhaa
open Go.RowKit Go.Deep Go.WideShapes
set_option maxRecDepth 100000

/-- A field with where its lists lie. -/
structure Fr where
  f : Fd
  Ao : Option Addr
  Ac : Option Addr
  Av : Option Addr
  co : Nat
  cc : Nat
  cv : Nat
instance : Inhabited Fr := ⟨⟨⟨[], [], []⟩, none, none, none, 0, 0, 0⟩⟩

/-- Fields in memory. -/
def Flds (w : World) (v : Value) (fs : List Fr) : Prop :=
  ∃ (A : Option Addr) (c : Nat), v = .slice A fs.length c ∧ (∀ r ∈ fs, FdV w w.heap.size r.Ao r.Ac r.Av r.co r.cc r.cv r.f) ∧
    (0 < fs.length → ∃ b o, A = some ⟨b, o, none⟩ ∧ b < w.heap.size ∧ ∀ j (h : j < fs.length), w.cell? ⟨b, o + j * 3, none⟩ = some (.slice fs[j].Ao fs[j].f.own.length fs[j].co) ∧ w.cell? ⟨b, o + j * 3 + 1, none⟩ = some (.slice fs[j].Ac fs[j].f.clr.length fs[j].cc) ∧ w.cell? ⟨b, o + j * 3 + 2, none⟩ = some (.slice fs[j].Av fs[j].f.vws.length fs[j].cv))
theorem Flds.at {w : World} {A : Option Addr} {n c : Nat} {fs : List Fr} (h : Flds w (.slice A n c) fs) (j : Nat) (hj : j < fs.length) : ∃ b o, A = some ⟨b, o, none⟩ ∧ b < w.heap.size ∧ w.cell? ⟨b, o + j * 3, none⟩ = some (.slice fs[j].Ao fs[j].f.own.length fs[j].co) ∧ w.cell? ⟨b, o + j * 3 + 1, none⟩ = some (.slice fs[j].Ac fs[j].f.clr.length fs[j].cc) ∧ w.cell? ⟨b, o + j * 3 + 2, none⟩ = some (.slice fs[j].Av fs[j].f.vws.length fs[j].cv) ∧ FdV w w.heap.size fs[j].Ao fs[j].Ac fs[j].Av fs[j].co fs[j].cc fs[j].cv fs[j].f := by
  obtain ⟨A', c', hv, hr, hx⟩ := h
  injection hv with e1 e2 e3
  subst e1 e3
  obtain ⟨b, o, hA, hb, hc⟩ := hx (by omega)
  obtain ⟨c1, c2, c3⟩ := hc j hj
  exact ⟨b, o, hA, hb, c1, c2, c3, hr _ (List.getElem_mem hj)⟩

theorem flds_of_trod {H : Type} {enc : TypeId × Value → H} {W : World} {base fuel : Nat} {held : Bool} {x : DataW H × List MemPlace} {v : Value}
    (hf : DataW.trod enc Try.prog W base (fun _ => true) held fuel 52 [v] = some x) : ∃ (A : Option Addr) (fs : List Fr) (c : Nat), v = .slice A fs.length c ∧ Flds W (.slice A fs.length c) fs ∧ (∀ r ∈ fs, FdOk r.f ∧ FdLen r.f) ∧ fs.length ≤ 9223372036854775807 := by
  rcases open_slice Try.underlying52 hf with ⟨hcs, _⟩ | ⟨a, l, c, m, n, D, Pl, hcs, hb, hl, hm, hmm, _, hx⟩
  · simp only [List.cons.injEq, and_true] at hcs
    subst hcs
    exact ⟨none, [], 0, rfl, ⟨none, 0, rfl, (fun _ h => by simp at h), fun h => by simp at h⟩, (fun _ h => by simp at h), by simp⟩
  · simp only [List.cons.injEq, and_true] at hcs
    subst hcs
    have hlm : l ≤ m := by rw [hmm]; split <;> omega
    have c30 : Try.prog.cellsOf 30 = 3 := by kernel_rfl
    have each : ∀ i, i < l → ∃ t : Fr, (FdV W W.heap.size t.Ao t.Ac t.Av t.co t.cc t.cv t.f ∧ FdOk t.f ∧ FdLen t.f) ∧ W.cell? (a.add (i * 3)) = some (.slice t.Ao t.f.own.length t.co) ∧ W.cell? (a.add (i * 3 + 1)) = some (.slice t.Ac t.f.clr.length t.cc) ∧ W.cell? (a.add (i * 3 + 2)) = some (.slice t.Av t.f.vws.length t.cv) := by
      intro i hi
      obtain ⟨cs', h1, h2⟩ := hx i (by omega)
      rw [c30] at h1
      obtain ⟨_, hlen, hcell⟩ := World.cells?_some h1
      match cs', hlen with
      | [v0, v1, v2], _ =>
        have e0 := hcell 0 (by omega)
        have e1 := hcell 1 (by omega)
        have e2 := hcell 2 (by omega)
        rw [Deep.add_add] at e0 e1 e2
        obtain ⟨f, Ao, Ac, Av, co, cc, cv, rfl, rfl, rfl, hr, hr2, hr3⟩ := fld_of_trod h2
        exact ⟨⟨f, Ao, Ac, Av, co, cc, cv⟩, ⟨hr, hr2, hr3⟩, by simpa using e0, by simpa using e1, by simpa using e2⟩
    obtain ⟨q, hq⟩ := choose_lt each
    refine ⟨some a, (List.range l).map q, c, by simp, ⟨some a, c, by simp, ?_, fun hp => ?_⟩, ?_, by simp; unfold maxLen at hm; omega⟩
    · intro y hy
      rw [List.mem_map] at hy
      obtain ⟨i, hi, rfl⟩ := hy
      exact (hq i (List.mem_range.1 hi)).1.1
    · have hp' : 0 < l := by simpa using hp
      obtain ⟨b, off, spot⟩ := a
      have h0 := (hq 0 hp').2.1
      have hspot : spot = none := by simpa [Addr.add] using World.cell?_spot h0
      subst hspot
      refine ⟨b, off, rfl, cell_lt (a := (⟨b, off, none⟩ : Addr).add (0 * 3)) h0, fun j hj => ?_⟩
      have hj' : j < l := by simpa using hj
      obtain ⟨_, r0, r1, r2⟩ := hq j hj'
      rw [add_at] at r0 r1 r2
      simp only [List.getElem_map, List.getElem_range]
      exact ⟨r0, by rw [Nat.add_assoc]; exact r1, by rw [Nat.add_assoc]; exact r2⟩
    · intro y hy
      rw [List.mem_map] at hy
      obtain ⟨i, hi, rfl⟩ := hy
      exact (hq i (List.mem_range.1 hi)).1.2
end Go.Proofs.Ythnjilbfkfekhaa
