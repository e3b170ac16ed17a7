/- Fields that came in. -/
import Derived.Test.YtblbbdkpebacbaaDoorP1
import Derived.Deep.Slices
import Derived.ChangeSame
import Derived.ChangeSlices
import Derived.Deep.Grids
import Derived.WideShapes
namespace Go.Proofs.YtblbbdkpebacbaaDoor
open Go.RowKit Go.Deep Go.WideShapes Go.ChangeAt Go.ChangeShapes
set_option maxRecDepth 100000

theorem bools_at {w : World} {x : Addr} {B : Nat → Bool} {cap : Nat} (hc : ∀ i, i < cap → w.cell? (x.add i) = some (.bool (B i))) (hp : 0 < cap) : ∃ b o, x = ⟨b, o, none⟩ ∧ ∀ i, i < cap → w.cell? ⟨b, o + i, none⟩ = some (.bool (B i)) := by
  obtain ⟨b, o, e⟩ := x
  cases e with
  | none => exact ⟨b, o, rfl, fun i hi => by have := hc i hi; rwa [add_at] at this⟩
  | some q =>
    have := hc 0 hp
    simp [Addr.add, World.cell?] at this
    split at this <;> cases this
theorem bools_arg {w : World} {x : Addr} {B : Nat → Bool} {len cap : Nat} (hl : len ≤ cap) (hc : ∀ i, i < cap → w.cell? (x.add i) = some (.bool (B i))) :
    ∃ zs : List Bool, zs.length = len ∧ Rd w w.heap.size (.slice (some x) len cap) (cvals zs) := by
  have hvl : (cvals ((List.range len).map B)).length = len := by simp [cvals]
  refine ⟨(List.range len).map B, by simp, ⟨some x, cap, by rw [hvl], ⟨(fun h => by cases h), by rw [hvl]; exact hl⟩, fun hp => ?_⟩⟩
  rw [hvl] at hp
  obtain ⟨b, o, rfl, hc'⟩ := bools_at hc (by omega)
  refine ⟨b, o, rfl, cell_lt (hc' 0 (by omega)), fun j u hu => ?_⟩
  have hj : j < len := by have := (List.getElem?_eq_some_iff.1 hu).1; rw [hvl] at this; exact this
  rw [hc' j (by omega), ← hu]
  simp [cvals, hj]


theorem bytes_of_trod {H : Type} {enc : TypeId × Value → H} {W : World} {base fuel : Nat} {held : Bool} {x : DataW H × List MemPlace} {v : Value}
    (hf : DataW.trod enc Tryd.prog W base (fun _ => true) held fuel 26 [v] = some x) : ∃ (A : Option Addr) (q : List Nat) (c : Nat), v = .slice A q.length c ∧ (∀ y ∈ q, y < 256) ∧ Rd W W.heap.size (.slice A q.length c) (bvals q) ∧ q.length ≤ 9223372036854775807 := by
  rcases open_ints Tryd.underlying26 Tryd.underlying5 (by kernel_rfl) hf with ⟨hcs, _⟩ | ⟨x, l, c, zs, hcs, _, hl, hm, hz, _, hcell, hwz⟩
  · simp only [List.cons.injEq, and_true] at hcs
    subst hcs
    exact ⟨none, [], 0, rfl, fun _ h => by simp at h, Rd.empty _ _, by simp⟩
  · simp only [List.cons.injEq, and_true] at hcs
    subst hcs
    obtain ⟨q, h0, h1, h2⟩ := arg_some hl (by simpa using hz) hcell hwz
    subst h0
    exact ⟨_, q, c, rfl, h1, h2, by unfold maxLen at hm; omega⟩
theorem bits_of_trod {H : Type} {enc : TypeId × Value → H} {W : World} {base fuel : Nat} {held : Bool} {x : DataW H × List MemPlace} {v : Value}
    (hf : DataW.trod enc Tryd.prog W base (fun _ => true) held fuel 27 [v] = some x) : ∃ (A : Option Addr) (q : List Bool) (c : Nat), v = .slice A q.length c ∧ Rd W W.heap.size (.slice A q.length c) (cvals q) ∧ q.length ≤ 9223372036854775807 := by
  rcases Go.Deep.open_bools Tryd.underlying27 Tryd.underlying4 (by kernel_rfl) hf with ⟨hcs, _⟩ | ⟨x, l, c, B, hcs, _, hl, hm, _, hcell⟩
  · simp only [List.cons.injEq, and_true] at hcs
    subst hcs
    exact ⟨none, [], 0, rfl, Rd.empty _ _, by simp⟩
  · simp only [List.cons.injEq, and_true] at hcs
    subst hcs
    obtain ⟨zs, h0, hr⟩ := bools_arg hl hcell
    subst h0
    exact ⟨_, zs, c, rfl, hr, by unfold maxLen at hm; omega⟩

theorem look_of_trod {H : Type} {enc : TypeId × Value → H} {W : World} {base fuel : Nat} {held : Bool} {y : DataW H × List MemPlace} {v0 v1 v2 : Value}
    (hf : DataW.trod enc Tryd.prog W base (fun _ => true) held fuel 71 [v0, v1, v2] = some y) : ∃ (k : Nat × Bool × List Nat), (k.1 < 256 ∧ ∀ x ∈ k.2.2, x < 256) ∧ v0 = .int .u8 (k.1 : Int) ∧ v1 = .bool k.2.1 ∧ Rd W W.heap.size v2 (bvals k.2.2) ∧ k.2.2.length ≤ 9223372036854775807 := by
  obtain ⟨xs, k, hk, hxy, _, hxl, hg⟩ := DataW.trod_struct Tryd.underlying71 hf
  match xs, hxl with
  | [y0, y1, y2], _ =>
    have c5 : Tryd.prog.cellsOf 5 = 1 := by kernel_rfl
    have c4 : Tryd.prog.cellsOf 4 = 1 := by kernel_rfl
    have c26 : Tryd.prog.cellsOf 26 = 1 := by kernel_rfl
    have g0 : DataW.trod enc Tryd.prog W base (fun _ => true) held k 5 [v0] = some y0 := by simpa [c5] using hg 0 _ rfl
    have g1 : DataW.trod enc Tryd.prog W base (fun _ => true) held k 4 [v1] = some y1 := by simpa [c4] using hg 1 _ rfl
    have g2 : DataW.trod enc Tryd.prog W base (fun _ => true) held k 26 [v2] = some y2 := by simpa [c26] using hg 2 _ rfl
    obtain ⟨z0, f0, _, w0⟩ := DataW.trod_int Tryd.underlying5 g0
    obtain ⟨z1, f1, _⟩ := DataW.trod_bool Tryd.underlying4 g1
    simp only [List.cons.injEq, and_true] at f0 f1
    subst f0 f1
    obtain ⟨n0, rfl, b0⟩ := u8_nat w0
    obtain ⟨A, q, c, rfl, hq1, hq2, hq3⟩ := bytes_of_trod g2
    exact ⟨(n0, z1, q), ⟨b0, hq1⟩, rfl, rfl, hq2, hq3⟩

theorem looks_of_trod {H : Type} {enc : TypeId × Value → H} {W : World} {base fuel : Nat} {held : Bool} {x : DataW H × List MemPlace} {v : Value}
    (hf : DataW.trod enc Tryd.prog W base (fun _ => true) held fuel 28 [v] = some x) : ∃ (A : Option Addr) (ks : List (Nat × Bool × List Nat)) (c : Nat), v = .slice A ks.length c ∧ Lks W W.heap.size (.slice A ks.length c) ks ∧ (∀ k ∈ ks, k.1 < 256 ∧ ∀ x ∈ k.2.2, x < 256) ∧ ks.length ≤ 9223372036854775807 ∧ ∀ k ∈ ks, k.2.2.length ≤ 9223372036854775807 := by
  rcases open_slice Tryd.underlying28 hf with ⟨hcs, _⟩ | ⟨a, l, c, m, n, D, Pl, hcs, hb, hl, hm, hmm, _, hx⟩
  · simp only [List.cons.injEq, and_true] at hcs
    subst hcs
    exact ⟨none, [], 0, rfl, ⟨none, 0, [], rfl, rfl, (fun i h => by simp at h), fun h => by simp at h⟩, (fun _ h => by simp at h), by simp, (fun _ h => by simp at h)⟩
  · simp only [List.cons.injEq, and_true] at hcs
    subst hcs
    have hlm : l ≤ m := by rw [hmm]; split <;> omega
    have c72 : Tryd.prog.cellsOf 71 = 3 := by kernel_rfl
    have each : ∀ i, i < l → ∃ t : (Nat × Bool × List Nat) × Value, ((t.1.1 < 256 ∧ ∀ x ∈ t.1.2.2, x < 256) ∧ t.1.2.2.length ≤ 9223372036854775807 ∧ Rd W W.heap.size t.2 (bvals t.1.2.2)) ∧ W.cell? (a.add (i * 3)) = some (.int .u8 (t.1.1 : Int)) ∧ W.cell? (a.add (i * 3 + 1)) = some (.bool t.1.2.1) ∧ W.cell? (a.add (i * 3 + 2)) = some t.2 := by
      intro i hi
      obtain ⟨cs', h1, h2⟩ := hx i (by omega)
      rw [c72] at h1
      obtain ⟨_, hlen, hcell⟩ := World.cells?_some h1
      match cs', hlen with
      | [v0, v1, v2], _ =>
        have e0 := hcell 0 (by omega)
        have e1 := hcell 1 (by omega)
        have e2 := hcell 2 (by omega)
        rw [Deep.add_add] at e0 e1 e2
        obtain ⟨k, hk, rfl, rfl, hr, hrl⟩ := look_of_trod h2
        exact ⟨(k, v2), ⟨hk, hrl, hr⟩, by simpa using e0, by simpa using e1, by simpa using e2⟩
    obtain ⟨q, hq⟩ := choose_lt each
    refine ⟨some a, (List.range l).map (fun i => (q i).1), c, by simp, ⟨some a, c, (List.range l).map (fun i => (q i).2), by simp, by simp, ?_, fun hp => ?_⟩, ?_, by simp; unfold maxLen at hm; omega, ?_⟩
    · intro i h1 h2
      have hi : i < l := by simpa using h1
      simpa using (hq i hi).1.2.2
    · have hp' : 0 < l := by simpa using hp
      obtain ⟨b, off, spot⟩ := a
      have h0 := (hq 0 hp').2.1
      have hspot : spot = none := by simpa [Addr.add] using World.cell?_spot h0
      subst hspot
      refine ⟨b, off, rfl, cell_lt (a := (⟨b, off, none⟩ : Addr).add (0 * 3)) h0, fun j hj h1 => ?_⟩
      have hj' : j < l := by simpa using hj
      obtain ⟨_, r0, r1, r2⟩ := hq j hj'
      rw [add_at] at r0 r1 r2
      simp only [List.getElem_map, List.getElem_range]
      exact ⟨r0, by rw [Nat.add_assoc]; exact r1, by rw [Nat.add_assoc]; exact r2⟩
    · intro y hy
      rw [List.mem_map] at hy
      obtain ⟨i, hi, rfl⟩ := hy
      exact (hq i (List.mem_range.1 hi)).1.1
    · intro y hy
      rw [List.mem_map] at hy
      obtain ⟨i, hi, rfl⟩ := hy
      exact (hq i (List.mem_range.1 hi)).1.2.1

/-- How long a field's lists may be. -/
structure FdLen (f : Fd) : Prop where
  own : f.own.length ≤ 9223372036854775807
  clr : f.clr.length ≤ 9223372036854775807
  vws : f.vws.length ≤ 9223372036854775807
  span : ∀ v ∈ f.vws, v.2.2.length ≤ 9223372036854775807

theorem fld_of_trod {H : Type} {enc : TypeId × Value → H} {W : World} {base fuel : Nat} {held : Bool} {y : DataW H × List MemPlace} {v0 v1 v2 : Value}
    (hf : DataW.trod enc Tryd.prog W base (fun _ => true) held fuel 30 [v0, v1, v2] = some y) : ∃ (f : Fd) (Ao Ac Av : Option Addr) (co cc cv : Nat), v0 = .slice Ao f.own.length co ∧ v1 = .slice Ac f.clr.length cc ∧ v2 = .slice Av f.vws.length cv ∧ FdV W W.heap.size Ao Ac Av co cc cv f ∧ FdOk f ∧ FdLen f := by
  obtain ⟨xs, k, hk, hxy, _, hxl, hg⟩ := DataW.trod_struct Tryd.underlying30 hf
  match xs, hxl with
  | [y0, y1, y2], _ =>
    have c26 : Tryd.prog.cellsOf 26 = 1 := by kernel_rfl
    have c27 : Tryd.prog.cellsOf 27 = 1 := by kernel_rfl
    have c28 : Tryd.prog.cellsOf 28 = 1 := by kernel_rfl
    have g0 : DataW.trod enc Tryd.prog W base (fun _ => true) held k 26 [v0] = some y0 := by simpa [c26] using hg 0 _ rfl
    have g1 : DataW.trod enc Tryd.prog W base (fun _ => true) held k 27 [v1] = some y1 := by simpa [c27] using hg 1 _ rfl
    have g2 : DataW.trod enc Tryd.prog W base (fun _ => true) held k 28 [v2] = some y2 := by simpa [c28] using hg 2 _ rfl
    obtain ⟨Ao, qo, co, rfl, a1, a2, a3⟩ := bytes_of_trod g0
    obtain ⟨Ac, qc, cc, rfl, b2, b3⟩ := bits_of_trod g1
    obtain ⟨Av, qv, cv, rfl, d1, d2, d3, d4⟩ := looks_of_trod g2
    exact ⟨⟨qo, qc, qv⟩, Ao, Ac, Av, co, cc, cv, rfl, rfl, rfl, ⟨a2, b2, d1⟩, ⟨a1, d2⟩, ⟨a3, b3, d3, d4⟩⟩

theorem field_of_trod {H : Type} {enc : TypeId × Value → H} {W : World} {base : Nat} {v : Value} {dd : DataW H} {p : List MemPlace}
    (hval : Value.okWide Tryd.prog W .any base 30 v) (h : DataW.Trod enc Tryd.prog W 0 (fun _ => true) true 30 v dd p) :
    ∃ (f : Fd) (Ao Ac Av : Option Addr) (co cc cv : Nat), v = .agg (fcells Ao Ac Av f.own.length f.clr.length f.vws.length co cc cv) ∧ FdV W W.heap.size Ao Ac Av co cc cv f ∧ FdOk f ∧ FdLen f := by
  obtain ⟨cs, rfl, hsz⟩ := okWide_struct Tryd.underlying30 hval
  rw [show Tryd.prog.cellsOf 30 = 3 from by kernel_rfl] at hsz
  obtain ⟨fuel, hf⟩ := h
  obtain ⟨l⟩ := cs
  match l, hsz with
  | [c0, c1, c2], _ =>
    obtain ⟨f, Ao, Ac, Av, co, cc, cv, rfl, rfl, rfl, h1, h2, h3⟩ := fld_of_trod (v0 := c0) (v1 := c1) (v2 := c2) (by simpa [Value.cells] using hf)
    exact ⟨f, Ao, Ac, Av, co, cc, cv, rfl, h1, h2, h3⟩
end Go.Proofs.YtblbbdkpebacbaaDoor
