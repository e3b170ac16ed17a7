/- A []byte that came in, read as bytes; the document's Join of it and nothing. -/
import Derived.Test.YtnnfkehpoeehbaaOwn
import Derived.OpenShut
import Derived.Maps.AppendAt
namespace Go.Proofs.Ytnnfkehpoeehbaa
open Go.RowKit

theorem cell_lt {w : World} {a : Addr} {v : Value} (h : w.cell? a = some v) : a.block < w.heap.size := by
  rcases Nat.lt_or_ge a.block w.heap.size with c | c
  · exact c
  · have : w.heap[a.block]? = none := Array.getElem?_eq_none c
    simp [World.cell?, this] at h

/-- What is known of bytes that came in. -/
structure Arg (w : World) (A : Option Addr) (len cap : Nat) (q : List Nat) : Prop where
  size : q.length = len
  small : ∀ x ∈ q, x < 256
  rd : Rd w w.heap.size (.slice A len cap) (bvals q)
  nil : A = none → cap = 0 ∧ q = []

theorem arg_none (w : World) : Arg w none 0 0 [] :=
  ⟨rfl, fun _ h => by simp at h, ⟨none, 0, rfl, fun h => by simp [bvals] at h⟩, fun _ => ⟨rfl, rfl⟩⟩

theorem arg_some {w : World} {x : Addr} {len cap : Nat} {zs : List Int} (hl : len ≤ cap) (hz : zs.length = cap) (hc : ∀ i, i < zs.length → w.cell? (x.add i) = some (.int .u8 (zs.getD i 0))) (hwz : ∀ n ∈ zs, (Lit.int .u8 n).wf = true) :
    Arg w (some x) len cap ((zs.take len).map Int.toNat) := by
  have hlen : ((zs.take len).map Int.toNat).length = len := by simp; omega
  have hb : ∀ n ∈ zs, 0 ≤ n ∧ n ≤ 255 := by
    intro n hn
    have := hwz n hn
    simp only [Lit.wf, Bool.and_eq_true, decide_eq_true_eq] at this
    rw [show IntKind.u8.min = 0 from by decide, show IntKind.u8.max = 255 from by decide] at this
    exact this
  refine ⟨hlen, ?_, ⟨some x, cap, by rw [bvals_length, hlen], fun hp => ?_⟩, fun h => by cases h⟩
  · intro y hy
    rw [List.mem_map] at hy
    obtain ⟨n, hn, rfl⟩ := hy
    have := hb n (List.mem_of_mem_take hn)
    omega
  · rw [bvals_length, hlen] at hp
    obtain ⟨b, o, rfl, hc'⟩ := ints_at hc (by omega)
    refine ⟨b, o, rfl, cell_lt (hc' 0 (by omega)), fun j u hu => ?_⟩
    have hj : j < len := by have := (List.getElem?_eq_some_iff.1 hu).1; rw [bvals_length, hlen] at this; exact this
    rw [bvals_get _ _ (by rw [hlen]; exact hj)] at hu
    rw [hc' j (by omega), ← hu]
    have e : zs.getD j 0 = zs[j]'(by omega) := by simp [List.getD, show j < zs.length by omega]
    have h0 := hb (zs[j]'(by omega)) (List.getElem_mem _)
    rw [e]
    simp only [List.getElem_map, List.getElem_take]
    rw [Int.toNat_of_nonneg h0.1]

theorem join_arg (w : World) (A : Option Addr) (len cap : Nat) (q : List Nat) (h : Arg w A len cap q) (hl : len ≤ 10000000) : Calls Try.prog 24 #[.slice A len cap, .slice none 0 0] w (RetBytes q w) := by
  cases A with
  | none =>
    obtain ⟨rfl, rfl⟩ := h.nil rfl
    have : len = 0 := h.size.symm
    subst this
    exact join_none w
  | some ad =>
    have e := h.size
    subst e
    exact join_some w ad q cap h.rd hl

theorem Arg.below {w w' : World} {A : Option Addr} {len cap : Nat} {q : List Nat} (h : Arg w A len cap q) (hb : Below w.heap.size w w') : Arg w' A len cap q :=
  ⟨h.size, h.small, h.rd.mono hb.size fun _ hp => hb.cell hp, h.nil⟩

end Go.Proofs.Ytnnfkehpoeehbaa
