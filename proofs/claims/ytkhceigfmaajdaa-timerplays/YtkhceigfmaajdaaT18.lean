/- A list of acts that came in; the number that an act means; the two tables held against each other. -/
import Derived.Test.YtkhceigfmaajdaaT17
import Derived.Deep.Slices
import Derived.ChangeSame
namespace Go.Proofs.Ytkhceigfmaajdaa
open Go.RowKit Go.Deep Go.WideShapes
set_option maxRecDepth 100000

/-- Acts: what is done, with which timer, at which tick. -/
def Acts (w : World) (v : Value) (ts : List (Nat × Int × Int)) : Prop :=
  ∃ (A : Option Addr) (c : Nat), v = .slice A ts.length c ∧ (0 < ts.length → ∃ b o, A = some ⟨b, o, none⟩ ∧ b < w.heap.size ∧ ∀ j (h : j < ts.length), w.cell? ⟨b, o + j * 3, none⟩ = some (.int .u8 (ts[j].1 : Int)) ∧ w.cell? ⟨b, o + j * 3 + 1, none⟩ = some (.int .i64 ts[j].2.1) ∧ w.cell? ⟨b, o + j * 3 + 2, none⟩ = some (.int .i64 ts[j].2.2))
def ActOk (t : Nat × Int × Int) : Prop := t.1 < 256 ∧ (-9223372036854775808 ≤ t.2.1 ∧ t.2.1 ≤ 9223372036854775807) ∧ (-9223372036854775808 ≤ t.2.2 ∧ t.2.2 ≤ 9223372036854775807)

theorem u8_nat {n : Int} (h : (Lit.int .u8 n).wf = true) : ∃ k : Nat, n = (k : Int) ∧ k < 256 := by
  simp only [Lit.wf, Bool.and_eq_true, decide_eq_true_eq] at h
  rw [show IntKind.u8.min = 0 from by decide, show IntKind.u8.max = 255 from by decide] at h
  exact ⟨n.toNat, by omega, by omega⟩

theorem acts_of_trod {H : Type} {enc : TypeId × Value → H} {W : World} {base fuel : Nat} {spare : Nat → Bool} {held : Bool} {x : DataW H × List MemPlace} {a0 : Option Addr} {len cap : Nat}
    (hf : DataW.trod enc Try.prog W base spare held fuel 22 [.slice a0 len cap] = some x) : ∃ ts : List (Nat × Int × Int), ts.length = len ∧ Acts W (.slice a0 len cap) ts ∧ (∀ t ∈ ts, ActOk t) ∧ len ≤ 9223372036854775807 := by
  rcases open_slice Try.underlying22 hf with ⟨hcs, _⟩ | ⟨a, l, c, m, n, D, Pl, hcs, hb, hl, hm, hmm, _, hx⟩
  · simp at hcs
    obtain ⟨rfl, rfl, rfl⟩ := hcs
    exact ⟨[], rfl, ⟨none, 0, rfl, fun h => by simp at h⟩, fun _ h => by simp at h, by omega⟩
  · simp at hcs
    obtain ⟨rfl, rfl, rfl⟩ := hcs
    have hlm : len ≤ m := by rw [hmm]; split <;> omega
    have c29 : Try.prog.cellsOf 29 = 3 := by kernel_rfl
    have c5 : Try.prog.cellsOf 5 = 1 := by kernel_rfl
    have c3 : Try.prog.cellsOf 3 = 1 := by kernel_rfl
    have c2 : Try.prog.cellsOf 2 = 1 := by kernel_rfl
    have each : ∀ i, i < len → ∃ t : Nat × Int × Int, ActOk t ∧ W.cell? (a.add (i * 3)) = some (.int .u8 (t.1 : Int)) ∧ W.cell? (a.add (i * 3 + 1)) = some (.int .i64 t.2.1) ∧ W.cell? (a.add (i * 3 + 2)) = some (.int .i64 t.2.2) := by
      intro i hi
      obtain ⟨cs', h1, h2⟩ := hx i (by omega)
      rw [c29] at h1
      obtain ⟨_, hlen, hcell⟩ := World.cells?_some h1
      obtain ⟨xs, k, hk, hxy, _, hxl, hf⟩ := DataW.trod_struct Try.underlying29 h2
      match xs, hxl, cs', hlen with
      | [y0, y1, y2], _, [v0, v1, v2], _ =>
        have g0 : DataW.trod enc Try.prog W base spare held k 5 [v0] = some y0 := by simpa [c5] using hf 0 _ rfl
        have g1 : DataW.trod enc Try.prog W base spare held k 3 [v1] = some y1 := by simpa [c3] using hf 1 _ rfl
        have g2 : DataW.trod enc Try.prog W base spare held k 2 [v2] = some y2 := by simpa [c2] using hf 2 _ rfl
        have e0 := hcell 0 (by omega)
        have e1 := hcell 1 (by omega)
        have e2 := hcell 2 (by omega)
        rw [Deep.add_add] at e0 e1 e2
        obtain ⟨z0, f0, _, w0⟩ := DataW.trod_int Try.underlying5 g0
        obtain ⟨z1, f1, _, w1⟩ := DataW.trod_int Try.underlying3 g1
        obtain ⟨z2, f2, _, w2⟩ := DataW.trod_int Try.underlying2 g2
        simp only [List.cons.injEq, and_true] at f0 f1 f2
        subst f0 f1 f2
        obtain ⟨n0, rfl, b0⟩ := u8_nat w0
        exact ⟨(n0, z1, z2), ⟨b0, i64_in w1, i64_in w2⟩, by simpa using e0, by simpa using e1, by simpa using e2⟩
    obtain ⟨q, hq⟩ := choose_lt each
    refine ⟨(List.range len).map q, by simp, ⟨some a, cap, by simp, fun hp => ?_⟩, ?_, by unfold maxLen at hm; omega⟩
    · have hp' : 0 < len := by simpa using hp
      obtain ⟨b, off, spot⟩ := a
      have h0 := (hq 0 hp').2.1
      have hspot : spot = none := by simpa [Addr.add] using World.cell?_spot h0
      subst hspot
      refine ⟨b, off, rfl, cell_lt (a := (⟨b, off, none⟩ : Addr).add (0 * 3)) h0, fun j hj => ?_⟩
      have hj' : j < len := by simpa using hj
      obtain ⟨_, r0, r1, r2⟩ := hq j hj'
      rw [add_at] at r0 r1 r2
      simp only [List.getElem_map, List.getElem_range]
      exact ⟨r0, by rw [Nat.add_assoc]; exact r1, by rw [Nat.add_assoc]; exact r2⟩
    · intro y hy
      rw [List.mem_map] at hy
      obtain ⟨i, hi, rfl⟩ := hy
      exact (hq i (List.mem_range.1 hi)).1

theorem Acts.at {w : World} {A : Option Addr} {n c : Nat} {ts : List (Nat × Int × Int)} (h : Acts w (.slice A n c) ts) (i : Nat) (hi : i < ts.length) : ∃ b o, A = some ⟨b, o, none⟩ ∧ b < w.heap.size ∧ w.cell? ⟨b, o + i * 3, none⟩ = some (.int .u8 (ts[i].1 : Int)) ∧ w.cell? ⟨b, o + i * 3 + 1, none⟩ = some (.int .i64 ts[i].2.1) ∧ w.cell? ⟨b, o + i * 3 + 2, none⟩ = some (.int .i64 ts[i].2.2) := by
  obtain ⟨A', c', hv, hx⟩ := h
  obtain ⟨b, o, hA, hb, hc⟩ := hx (by omega)
  injection hv with e _ _
  exact ⟨b, o, by rw [e]; exact hA, hb, hc i hi⟩

def nearN (x : Int) (few : Bool) : Int := if few then x.tmod 6 else x

set_option maxHeartbeats 1000000 in
theorem near_any (w : World) (d x y : Int) (few : Bool) : Calls Try.prog 11 #[.agg #[.int .u8 d, .int .i64 x, .int .i64 y], .bool few] w fun e w' => e = .returned (.int .i64 (nearN x few)) ∧ Below w.heap.size w w' := by
  have HB := Lib.hid ((Below.refl w.heap.size w).alloc (Nat.le_refl _) (.cells #[.int .u8 d, .int .i64 x, .int .i64 y] 29))
  have hr := Row.new w 29 #[.int .u8 d, .int .i64 x, .int .i64 y]
  have k1 := hr.cell 1
  simp only [List.getElem?_toArray, List.getElem?_cons_zero, List.getElem?_cons_succ] at k1
  clear hr
  cases few with
  | true =>
    have HN : Hid (nearN x true = x.tmod 6) := rfl
    rw [HN.out]
    go_enter Try.func11, Try.ntmps11
    go_wp2_with fail
    go_ret
    exact ⟨rfl, HB.out⟩
  | false =>
    have HN : Hid (nearN x false = x) := rfl
    rw [HN.out]
    go_enter Try.func11, Try.ntmps11
    go_wp2_with fail
    go_ret
    exact ⟨rfl, HB.out⟩

end Go.Proofs.Ytkhceigfmaajdaa
