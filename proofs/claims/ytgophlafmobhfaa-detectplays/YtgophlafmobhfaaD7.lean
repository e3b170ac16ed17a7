/- Bytes, and lists of bytes, that came in; the count of what was said. -/
import Derived.Test.YtgophlafmobhfaaD6
import Derived.OpenShut
namespace Go.Proofs.Ytgophlafmobhfaa
open Go.RowKit Go.Deep Go.WideShapes
set_option maxRecDepth 100000

theorem i64_in {n : Int} (h : (Lit.int .i64 n).wf = true) : -9223372036854775808 ≤ n ∧ n ≤ 9223372036854775807 := by
  simp only [Lit.wf, Bool.and_eq_true, decide_eq_true_eq] at h
  exact h

theorem arg_some {w : World} {x : Addr} {len cap : Nat} {zs : List Int} (hl : len ≤ cap) (hz : zs.length = cap) (hc : ∀ i, i < zs.length → w.cell? (x.add i) = some (.int .u8 (zs.getD i 0))) (hwz : ∀ n ∈ zs, (Lit.int .u8 n).wf = true) :
    ∃ q : List Nat, q.length = len ∧ (∀ y ∈ q, y < 256) ∧ Rd w w.heap.size (.slice (some x) len cap) (bvals q) := by
  have hlen : ((zs.take len).map Int.toNat).length = len := by simp; omega
  have hb : ∀ n ∈ zs, 0 ≤ n ∧ n ≤ 255 := by
    intro n hn
    have := hwz n hn
    simp only [Lit.wf, Bool.and_eq_true, decide_eq_true_eq] at this
    rw [show IntKind.u8.min = 0 from by decide, show IntKind.u8.max = 255 from by decide] at this
    exact this
  refine ⟨(zs.take len).map Int.toNat, hlen, ?_, ⟨some x, cap, by rw [bvals_length, hlen], ⟨(fun h => by cases h), by rw [bvals_length, hlen]; exact hl⟩, fun hp => ?_⟩⟩
  · intro y hy
    rw [List.mem_map] at hy
    obtain ⟨n, hn, rfl⟩ := hy
    have := hb n (List.mem_of_mem_take hn)
    omega
  · rw [bvals_length, hlen] at hp
    obtain ⟨b, o, rfl, hc'⟩ := ints_at hc (by omega)
    refine ⟨b, o, rfl, cell_lt (hc' 0 (by omega)), fun j u hu => ?_⟩
    have hj : j < len := by have := (List.getElem?_eq_some_iff.1 hu).1; rw [bvals_length, hlen] at this; exact this
    rw [bvals_get _ _ (by rw [hlen]; exact hj)] at hu
    rw [hc' j (by omega), ← hu]
    have e : zs.getD j 0 = zs[j]'(by omega) := by simp [List.getD, show j < zs.length by omega]
    have h0 := hb (zs[j]'(by omega)) (List.getElem_mem _)
    rw [e]
    simp only [List.getElem_map, List.getElem_take]
    rw [Int.toNat_of_nonneg h0.1]

/-- What is known of bytes that came in. -/
theorem arg_any {w : World} {a : Option Addr} {len cap : Nat} {zs : List Int} (h : (a = none ∧ len = 0 ∧ cap = 0 ∧ zs = []) ∨
    ∃ x, a = some x ∧ len ≤ cap ∧ cap ≤ maxLen ∧ zs.length = cap ∧ (∀ i, i < zs.length → w.cell? (x.add i) = some (.int .u8 (zs.getD i 0))) ∧ ∀ n ∈ zs, (Lit.int .u8 n).wf = true) :
    ∃ q : List Nat, q.length = len ∧ (∀ y ∈ q, y < 256) ∧ Rd w w.heap.size (.slice a len cap) (bvals q) := by
  rcases h with ⟨rfl, rfl, rfl, rfl⟩ | ⟨x, rfl, hl, _, hz, hc, hwz⟩
  · exact ⟨[], rfl, fun _ h => by simp at h, Rd.empty _ _⟩
  · exact arg_some hl hz hc hwz

/-- Lists of bytes, in blocks below 'D'. -/
def BRows (w : World) (D : Nat) (v : Value) (rows : List (List Nat)) : Prop :=
  ∃ vs : List Value, Rd w D v vs ∧ vs.length = rows.length ∧ ∀ i (h1 : i < vs.length) (h2 : i < rows.length), Rd w D vs[i] (bvals rows[i])

theorem BRows.mono {w w' : World} {D D' : Nat} {v : Value} {xs : List (List Nat)} (h : BRows w D v xs) (hD : D ≤ D') (hc : ∀ p : Addr, p.block < D → w'.cell? p = w.cell? p) : BRows w' D' v xs := by
  obtain ⟨vs, h1, h2, h3⟩ := h
  exact ⟨vs, h1.mono hD hc, h2, fun i a b => (h3 i a b).mono hD hc⟩

theorem u8_nat {n : Int} (h : (Lit.int .u8 n).wf = true) : ∃ k : Nat, n = (k : Int) ∧ k < 256 := by
  simp only [Lit.wf, Bool.and_eq_true, decide_eq_true_eq] at h
  rw [show IntKind.u8.min = 0 from by decide, show IntKind.u8.max = 255 from by decide] at h
  exact ⟨n.toNat, by omega, by omega⟩

theorem u16_nat {n : Int} (h : (Lit.int .u16 n).wf = true) : ∃ k : Nat, n = (k : Int) ∧ k < 65536 := by
  simp only [Lit.wf, Bool.and_eq_true, decide_eq_true_eq] at h
  rw [show IntKind.u16.min = 0 from by decide, show IntKind.u16.max = 65535 from by decide] at h
  exact ⟨n.toNat, by omega, by omega⟩

/-- Lists of bytes that came in. -/
theorem brows_of_trod {H : Type} {enc : TypeId × Value → H} {W : World} {base fuel : Nat} {held : Bool} {x : DataW H × List MemPlace} {c : Value}
    (hf : DataW.trod enc Try.prog W base (fun _ => true) held fuel 22 [c] = some x) :
    ∃ rows : List (List Nat), BRows W W.heap.size c rows ∧ rows.length ≤ 9223372036854775807 ∧ (∀ r ∈ rows, r.length ≤ 9223372036854775807) ∧ ∀ r ∈ rows, ∀ y ∈ r, y < 256 := by
  rcases open_int_rows Try.underlying22 Try.underlying28 Try.underlying5 (by kernel_rfl) (by kernel_rfl) hf with ⟨hcs, _⟩ | ⟨a, len, cap, A, L, C, Z, hcs, _, hl, hm, _, hx⟩
  · simp only [List.cons.injEq, and_true] at hcs
    subst hcs
    exact ⟨[], ⟨[], Rd.empty _ _, rfl, fun i h => absurd h (by simp)⟩, by simp, by simp, by simp⟩
  · simp only [List.cons.injEq, and_true] at hcs
    subst hcs
    have each : ∀ r, r < len → ∃ q : List Nat, q.length = L r ∧ (∀ y ∈ q, y < 256) ∧ Rd W W.heap.size (.slice (A r) (L r) (C r)) (bvals q) := by
      intro r hr
      obtain ⟨_, h2, h3, h4, h5, h6, h7⟩ := hx r (by omega)
      cases eA : A r with
      | none =>
        have hC := h6 eA
        have hL : L r = 0 := by omega
        refine ⟨[], by simp [hL], by simp, ?_⟩
        rw [hL, hC]
        exact Rd.empty _ _
      | some a' =>
        exact arg_some h2 h4 (fun i hi => (h7 a' eA).2 i (by omega)) h5
    obtain ⟨Q, hQ⟩ := choose_lt each
    refine ⟨(List.range len).map Q, ⟨(List.range len).map fun r => .slice (A r) (L r) (C r), ?_, by simp, ?_⟩, ?_, ?_, ?_⟩
    · refine ⟨some a, cap, by simp, ⟨(fun h => by cases h), by simpa using hl⟩, fun hp => ?_⟩
      have hp' : 0 < len := by simpa using hp
      obtain ⟨b, off, spot⟩ := a
      have h0 := (hx 0 (by omega)).1
      have hspot : spot = none := by simpa [Addr.add] using World.cell?_spot h0
      subst hspot
      refine ⟨b, off, rfl, cell_lt h0, fun j u hu => ?_⟩
      have hj : j < len := by have := (List.getElem?_eq_some_iff.1 hu).1; simpa using this
      have hu2 : u = .slice (A j) (L j) (C j) := by simp [hj] at hu; exact hu.symm
      subst hu2
      have hh := (hx j (by omega)).1
      rw [show ((⟨b, off, none⟩ : Addr).add j) = ⟨b, off + j, none⟩ from by simp [Addr.add]] at hh
      exact hh
    · intro i h1 h2
      have hi : i < len := by simpa using h1
      simp only [List.getElem_map, List.getElem_range]
      exact (hQ i hi).2.2
    · simp only [List.length_map, List.length_range]
      unfold maxLen at hm; omega
    · intro r hr
      simp only [List.mem_map, List.mem_range] at hr
      obtain ⟨i, hi, rfl⟩ := hr
      obtain ⟨_, h2, h3, _⟩ := hx i (by omega)
      rw [(hQ i hi).1]
      unfold maxLen at h3; omega
    · intro r hr
      simp only [List.mem_map, List.mem_range] at hr
      obtain ⟨i, hi, rfl⟩ := hr
      exact (hQ i hi).2.1

theorem BRows.up {w w' : World} {v : Value} {xs : List (List Nat)} (h : BRows w w.heap.size v xs) (hb : Below w.heap.size w w') : BRows w' w'.heap.size v xs :=
  h.mono hb.size fun _ hp => hb.cell hp

/-- The count of what was said, step by step. -/
theorem cnt_snoc (l : List Nat) (i : Nat) (h : i < l.length) : nextC (cntL (l.take i) : Int) (l[i] == 0) = (cntL (l.take (i + 1)) : Int) := by
  rw [List.take_succ_eq_append_getElem h, cntL_snoc]

theorem tz_zero : ∀ (l : List Nat) (j : Nat) (h : j < l.length), j < tz l → l[j] = 0
  | [], j, h, _ => by simp at h
  | b :: r, j, h, hj => by
    unfold tz at hj
    split at hj
    · rename_i hb
      cases j with
      | zero => simpa using hb
      | succ j => simpa using tz_zero r j (by simpa using h) (by omega)
    · omega

/-- What the count tells of the newest ones. -/
theorem cnt_says (l : List Nat) (k : Nat) (h : k < cntL l) : ∃ hk : l.length - 1 - k < l.length, k < l.length ∧ l[l.length - 1 - k] = 0 := by
  have h1 : k < tz l.reverse := by unfold cntL at h; omega
  have h2 := tz_len l.reverse
  rw [List.length_reverse] at h2
  have h3 := tz_zero l.reverse k (by rw [List.length_reverse]; omega) h1
  rw [List.getElem_reverse] at h3
  exact ⟨by omega, by omega, h3⟩

theorem cnt_le (l : List Nat) : cntL l ≤ 1001 := by unfold cntL; omega

end Go.Proofs.Ytgophlafmobhfaa
