/- Lists of bytes that came in, with their room; bytes of one's own. -/
import Derived.Test.YtgophlafmobhfaaD8
import Derived.OpenShut
import Derived.SizedLaws
namespace Go.Proofs.Ytgophlafmobhfaa
open Go.RowKit Go.Deep Go.WideShapes Go.ChangeShapes
set_option maxRecDepth 100000

theorem Try.bytes5 : Try.prog.bytesOf 5 = 1 := by kernel_rfl

theorem weightsAll_mem {H : Type} {P : Program} {e : TypeId} : ∀ {ds : List (DataW H)} {d : DataW H} {n : Nat}, d ∈ ds → n ∈ d.weights P e → n ∈ DataW.weightsAll P e ds
  | x :: r, d, n, hd, hn => by
    simp only [DataW.weightsAll, List.mem_append]
    rcases List.mem_cons.1 hd with e | e
    · subst e; exact Or.inl hn
    · exact Or.inr (weightsAll_mem e hn)

/-- Lists of bytes that came in. -/
theorem brows_tight {H : Type} {enc : TypeId × Value → H} {W : World} {base fuel : Nat} {held : Bool} {x : DataW H × List MemPlace} {c : Value}
    (hf : DataW.trod enc Try.prog W base (fun _ => true) held fuel 22 [c] = some x) (hz : ∀ n ∈ x.1.weights Try.prog 22, n ≤ reachBytes) :
    ∃ rows : List (List Nat), BRows W W.heap.size c rows ∧ rows.length ≤ 9223372036854775807 ∧ (∀ r ∈ rows, r.length ≤ 140737488351232) ∧ ∀ r ∈ rows, ∀ y ∈ r, y < 256 := by
  rcases open_int_rows Try.underlying22 Try.underlying28 Try.underlying5 (by kernel_rfl) (by kernel_rfl) hf with ⟨hcs, _⟩ | ⟨a, len, cap, A, L, C, Z, hcs, _, hl, hm, hdx, hx⟩
  · simp only [List.cons.injEq, and_true] at hcs
    subst hcs
    exact ⟨[], ⟨[], Rd.empty _ _, rfl, fun i h => absurd h (by simp)⟩, by simp, by simp, by simp⟩
  · simp only [List.cons.injEq, and_true] at hcs
    subst hcs
    have each : ∀ r, r < len → ∃ q : List Nat, q.length = L r ∧ (∀ y ∈ q, y < 256) ∧ Rd W W.heap.size (.slice (A r) (L r) (C r)) (bvals q) := by
      intro r hr
      obtain ⟨_, h2, h3, h4, h5, h6, h7⟩ := hx r (by omega)
      cases eA : A r with
      | none =>
        have hC := h6 eA
        have hL : L r = 0 := by omega
        refine ⟨[], by simp [hL], by simp, ?_⟩
        rw [hL, hC]
        exact Rd.empty _ _
      | some a' =>
        exact arg_some h2 h4 (fun i hi => (h7 a' eA).2 i (by omega)) h5
    obtain ⟨Q, hQ⟩ := choose_lt each
    refine ⟨(List.range len).map Q, ⟨(List.range len).map fun r => .slice (A r) (L r) (C r), ?_, by simp, ?_⟩, ?_, ?_, ?_⟩
    · refine ⟨some a, cap, by simp, ⟨(fun h => by cases h), by simpa using hl⟩, fun hp => ?_⟩
      have hp' : 0 < len := by simpa using hp
      obtain ⟨b, off, spot⟩ := a
      have h0 := (hx 0 (by omega)).1
      have hspot : spot = none := by simpa [Addr.add] using World.cell?_spot h0
      subst hspot
      refine ⟨b, off, rfl, cell_lt h0, fun j u hu => ?_⟩
      have hj : j < len := by have := (List.getElem?_eq_some_iff.1 hu).1; simpa using this
      have hu2 : u = .slice (A j) (L j) (C j) := by simp [hj] at hu; exact hu.symm
      subst hu2
      have hh := (hx j (by omega)).1
      rw [show ((⟨b, off, none⟩ : Addr).add j) = ⟨b, off + j, none⟩ from by simp [Addr.add]] at hh
      exact hh
    · intro i h1 h2
      have hi : i < len := by simpa using h1
      simp only [List.getElem_map, List.getElem_range]
      exact (hQ i hi).2.2
    · simp only [List.length_map, List.length_range]
      unfold maxLen at hm; omega
    · intro r hr
      simp only [List.mem_map, List.mem_range] at hr
      obtain ⟨i, hi, rfl⟩ := hr
      obtain ⟨_, h2, h3, h4, _, h6, _⟩ := hx i (by omega)
      rw [(hQ i hi).1]
      cases eA : A i with
      | none => have := h6 eA; omega
      | some a' =>
        have hmem : (intRow .u8 (A i) (L i) (Z i) : DataW H) ∈ (List.range len).map fun r => intRow .u8 (A r) (L r) (Z r) := List.mem_map.2 ⟨i, List.mem_range.2 hi, rfl⟩
        have hw : C i ≤ reachBytes := by
          refine hz _ ?_
          rw [hdx]
          simp only [DataW.weights, Try.underlying22, List.mem_cons, List.mem_append]
          refine Or.inr (Or.inl (weightsAll_mem hmem ?_))
          rw [eA]
          simp only [intRow, DataW.weights, Try.underlying28, Try.bytes5, List.mem_cons, List.mem_append]
          left
          simp only [lits, List.length_map, List.length_take, List.length_drop]
          omega
        unfold reachBytes at hw
        omega
    · intro r hr
      simp only [List.mem_map, List.mem_range] at hr
      obtain ⟨i, hi, rfl⟩ := hr
      exact (hQ i hi).2.1

theorem Ra.of_own {w : World} {B h : Nat} {v : Value} {l : List Nat} {cs : Array Value} (ho : w.ownsRow B 5 1 v l.length (bvals l)) (hh : Row w h 2 cs) : Ra w h v l := by
  have hne := own_ne ho hh (by decide)
  rcases ho.2 with ⟨rfl, h0⟩ | ⟨g, cap, cur, rfl, _, hg, hcap, _⟩
  · exact ⟨none, 0, by rw [h0], ⟨fun _ => rfl, by omega⟩, fun hp => by omega⟩
  · refine ⟨_, cap, rfl, ⟨fun e => by (cases e), hcap⟩, fun _ => ⟨g, 0, rfl, ?_, heap_lt hg, fun j hj => ?_⟩⟩
    · rintro rfl; exact hne rfl
    · rw [Nat.zero_add, ho.cellAt j (by omega)]; exact bvals_get l j hj

theorem bvals_put (l : List Nat) (k x : Nat) : (bvals l).set k (.int .u8 (x : Int)) = bvals (l.set k x) := by simp [bvals, List.map_set]

theorem says_put (l : List Nat) (k x j : Nat) (h : j ≠ k) : says (l.set k x) j = says l j := by
  unfold says
  simp [List.getD, List.getElem?_set_ne (Ne.symm h)]

theorem step_alike {c c' : Nat → Int} {k : Nat} (h : ∀ j, j ≠ k → c j = c' j) (l l' : List Nat) (hl : ∀ j, j ≠ k → says l' j = says l j) : ∀ j, j ≠ k → stepC c l j = stepC c' l' j := by
  intro j hj
  unfold stepC
  rw [h j hj, hl j hj]

theorem slice_some {w : World} {u : Value} {l : List Nat} {D : Nat} (h : Rd w D u (bvals l)) (hl : 0 < l.length) : ∃ ad c, u = .slice (some ad) l.length c := by
  obtain ⟨A, c, rfl, h0, hx⟩ := h
  obtain ⟨b, o, rfl, _⟩ := hx (by rw [bvals_length]; exact hl)
  exact ⟨_, c, by rw [bvals_length]⟩

theorem own_some {w : World} {B n : Nat} {v : Value} {xs : List Value} (h : w.ownsRow B 5 1 v n xs) (hn : 0 < n) : ∃ g c, v = .slice (some ⟨g, 0, none⟩) n c := by
  rcases h.2 with ⟨rfl, h0⟩ | ⟨g, cap, cur, rfl, _⟩
  · omega
  · exact ⟨g, cap, rfl⟩

end Go.Proofs.Ytgophlafmobhfaa
