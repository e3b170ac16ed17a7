/- What is known of memory, of a layout, of a draft (carried over from layout's texts). -/
import Derived.Test.YtagkgejdammflaaGreatProg
import Derived.WalkKit
import Derived.WalkLawsBesides
import Derived.Lib.Hide
import Derived.KernelRfl
import Derived.IntWalk
import Derived.Laws.BitsAllLaws
import Derived.RegionTactic
import Derived.ChangeAlike
import Derived.BigRegion
import Derived.Deep.QuietTactic
import Derived.BigQuiet
import Derived.Deep.Draws
import Derived.OwnWalk
import Derived.Laws.AppendOwnNone
import Derived.Maps.AppendAt
import Derived.Laws.CopyOwn
import Derived.Laws.OwnMore
import Derived.Lib.SlBytesConst
import Derived.OpenShut
import Derived.Deep.Cut
import Derived.Laws.ComplexArith
import Derived.Lib.OthersKept
import Derived.LoopN
import Derived.Laws.Rows
import Derived.Laws.ResultCell
import Derived.Laws.MakeOwn
import Derived.Deep.DeepCutAuto
import Derived.Laws.ComplexQuo
import Derived.OrdersHeld
import Derived.Deep.CutBlock
import Derived.StillTailTactics
import Derived.Deep.AppendLies
import Derived.Deep.RegionHeld
import Derived.Deep.Matrix
import Derived.ProofKit
import Derived.Test.YtagkgejdammflaaGreatFloat
namespace Go.Proofs.YtagkgejdammflaaGreat
open Go.RowKit Fl
set_option maxRecDepth 100000

/-- Block 'g' is just these cells, of that type; none is frozen. -/
def Row (w : World) (g : Nat) (t : TypeId) (cs : Array Value) : Prop := w.heap[g]? = some (.cells cs t (0, 0))

theorem Row.lt {w : World} {g : Nat} {t : TypeId} {cs : Array Value} (h : Row w g t cs) : g < w.heap.size := by
  rcases Nat.lt_or_ge g w.heap.size with c | c
  · exact c
  · unfold Row at h; rw [Array.getElem?_eq_none c] at h; cases h

theorem Row.cell {w : World} {g : Nat} {t : TypeId} {cs : Array Value} (h : Row w g t cs) (i : Nat) : w.cell? ⟨g, i, none⟩ = cs[i]? := by
  unfold Row at h; simp [World.cell?, h]

theorem Row.frozen {w : World} {g : Nat} {t : TypeId} {cs : Array Value} (h : Row w g t cs) (i : Nat) : w.frozen? ⟨g, i, none⟩ = false := by
  unfold Row at h; simp [World.frozen?, h]

theorem Row.new (w : World) (t : TypeId) (cs : Array Value) : Row (w.alloc (.cells cs t)) w.heap.size t cs := by
  show (w.heap.push _)[w.heap.size]? = _
  simp

theorem Row.alloc {w : World} {g : Nat} {t : TypeId} {cs : Array Value} (h : Row w g t cs) (o : Obj) : Row (w.alloc o) g t cs :=
  (Below.heap_alloc w o g h.lt).trans h

theorem Row.set {w : World} {g : Nat} {t : TypeId} {cs : Array Value} (h : Row w g t cs) (i : Nat) (u : Value) : Row (w.setCell ⟨g, i, none⟩ u) g t (cs.setIfInBounds i u) := by
  unfold Row at h ⊢
  simp [World.setCell, Array.getElem?_modify, h]

theorem Row.far {w : World} {g : Nat} {t : TypeId} {cs : Array Value} (h : Row w g t cs) {p : Addr} (hp : g ≠ p.block) (u : Value) : Row (w.setCell p u) g t cs :=
  (Below.heap_setCell w p u g hp).trans h

theorem Row.grown {w w' : World} {row : Option Nat} {g : Nat} {t : TypeId} {cs : Array Value} (h : Row w g t cs) (hb : w.grownBy w' row) (hg : some g ≠ row) : Row w' g t cs :=
  (hb.block g h.lt hg).trans h

theorem Row.ne {w : World} {g g' : Nat} {t t' : TypeId} {cs cs' : Array Value} (h : Row w g t cs) (h' : Row w g' t' cs') (hne : t ≠ t') : g ≠ g' := by
  rintro rfl
  unfold Row at h h'
  rw [h] at h'
  injection h' with h'
  injection h' with _ ht
  exact hne ht

theorem own_ne {w : World} {base : Nat} {e : TypeId} {size n g : Nat} {v : Value} {xs : List Value} {t : TypeId} {cs : Array Value} (h : w.ownsRow base e size v n xs) (hg : Row w g t cs) (hne : e ≠ t) : some g ≠ v.ownBlock := by
  rcases h.2 with ⟨rfl, _⟩ | ⟨g', cap, cur, rfl, _, hh, _⟩
  · simp [Value.ownBlock]
  · intro he
    have : g = g' := by simpa [Value.ownBlock] using he
    subst this
    exact Row.ne (t := e) hh hg hne rfl

/-- Nothing below block 'B' has turned, but perhaps block 'g'; the streams are as they were. -/
structure Kept (B g : Nat) (w w' : World) : Prop where
  os : w'.os = w.os
  tape : w'.tape = w.tape
  output : w'.output = w.output
  size : w.heap.size ≤ w'.heap.size
  block : ∀ k, k < B → k ≠ g → w'.heap[k]? = w.heap[k]?

theorem Kept.refl (B g : Nat) (w : World) : Kept B g w w := ⟨rfl, rfl, rfl, Nat.le_refl _, fun _ _ _ => rfl⟩

theorem Kept.trans {B g : Nat} {a b c : World} (h : Kept B g a b) (k : Kept B g b c) : Kept B g a c :=
  ⟨k.os.trans h.os, k.tape.trans h.tape, k.output.trans h.output, Nat.le_trans h.size k.size, fun i hi hg => (k.block i hi hg).trans (h.block i hi hg)⟩

theorem Kept.drew {B g : Nat} {a w : World} (h : Kept B g a w) : Kept B g a w.drew := ⟨h.os, h.tape, h.output, h.size, h.block⟩

theorem Kept.alloc {B g : Nat} {a w : World} (h : Kept B g a w) (hB : B ≤ w.heap.size) (o : Obj) : Kept B g a (w.alloc o) :=
  h.trans ⟨rfl, rfl, rfl, by simp, fun k hk _ => Below.heap_alloc _ _ _ (by omega)⟩

theorem Kept.set {B g : Nat} {a w : World} (h : Kept B g a w) {p : Addr} (hp : B ≤ p.block ∨ p.block = g) (u : Value) : Kept B g a (w.setCell p u) :=
  h.trans ⟨rfl, rfl, rfl, by simp [World.setCell], fun k hk hg => Below.heap_setCell _ _ _ _ (by rcases hp with c | c <;> omega)⟩

theorem Kept.grown {B g : Nat} {a w w' : World} {row : Option Nat} (h : Kept B g a w) (hg : w.grownBy w' row) (hB : B ≤ w.heap.size) (hr : ∀ k, row = some k → B ≤ k) : Kept B g a w' :=
  h.trans ⟨hg.os, hg.tape, hg.output, hg.size, fun k hk _ => hg.block k (by omega) (fun e => by have := hr k e.symm; omega)⟩

theorem Kept.below {B g : Nat} {w w' : World} (h : Kept B g w w') (hg : B ≤ g) : Below B w w' :=
  ⟨h.os, h.tape, h.output, h.size, fun k hk => h.block k hk (by omega)⟩

theorem Kept.mono {B B' g : Nat} {w w' : World} (h : Kept B g w w') (hB : B' ≤ B) : Kept B' g w w' :=
  ⟨h.os, h.tape, h.output, h.size, fun k hk hg => h.block k (by omega) hg⟩

theorem Kept.row {B g : Nat} {w w' : World} (h : Kept B g w w') {k : Nat} {t : TypeId} {cs : Array Value} (hr : Row w k t cs) (hk : k < B) (hg : k ≠ g) : Row w' k t cs := (h.block k hk hg).trans hr

theorem Kept.of_below {B g : Nat} {w w' : World} (h : Below B w w') : Kept B g w w' := ⟨h.os, h.tape, h.output, h.size, fun k hk _ => h.block k hk⟩

/-- What was owned below 'B', in a block that is not 'g', is owned still. -/
theorem Kept.owns {B g : Nat} {w w' : World} (h : Kept B g w w') {base : Nat} {e : TypeId} {size n : Nat} {v : Value} {xs : List Value} (ho : w.ownsRow base e size v n xs) (hB : ∀ k, v.ownBlock = some k → k < B ∧ k ≠ g) : w'.ownsRow base e size v n xs := by
  obtain ⟨h1, h2⟩ := ho
  refine ⟨h1, ?_⟩
  rcases h2 with h2 | ⟨r, cap, cur, rfl, hr, hh, rest⟩
  · exact Or.inl h2
  · obtain ⟨a, b⟩ := hB r rfl
    exact Or.inr ⟨r, cap, cur, rfl, hr, (h.block r a b).trans hh, rest⟩

/-- One bit goes into the register. -/
def bitStep (r : Nat) (b : Bool) : Nat := if r.testBit 0 != b then (r / 2) ^^^ 40961 else r / 2

/-- The first 'k' bits of 'x' go into it, the lowest first. -/
def bitsStep (r x : Nat) : Nat → Nat
  | 0 => r
  | k + 1 => bitStep (bitsStep r x k) (x.testBit k)

def reg (q : List Nat) : Nat := q.foldl (fun r x => bitsStep r x 8) 65535

def sumOf (q : List Nat) : Nat := 65535 - reg q

/-- With its sum behind, the lower byte first. -/
def closed (q : List Nat) : List Nat := q ++ [sumOf q % 256, sumOf q / 256]

/-- Bits told by a function go into it. -/
def fr (r : Nat) (f : Nat → Bool) : Nat → Nat
  | 0 => r
  | m + 1 => bitStep (fr r f m) (f m)

/-- The bits that a run turns. -/
def turned (k run : Nat) (j : Nat) : Bool := decide (k ≤ j) && run.testBit (j - k)

def bvals (q : List Nat) : List Value := q.map (fun (x : Nat) => Value.int .u8 (x : Int))

theorem bvals_length (q : List Nat) : (bvals q).length = q.length := by simp [bvals]

theorem bvals_get (q : List Nat) (i : Nat) (h : i < q.length) : (bvals q)[i]? = some (.int .u8 (q[i] : Int)) := by
  simp [bvals, h]

/-- A slice whose elements are these cells, in blocks below 'B'. -/
def Rd (w : World) (B : Nat) (v : Value) (xs : List Value) : Prop :=
  ∃ (A : Option Addr) (c : Nat), v = .slice A xs.length c ∧ ((A = none → c = 0) ∧ xs.length ≤ c) ∧ (0 < xs.length → ∃ b o, A = some ⟨b, o, none⟩ ∧ b < B ∧ ∀ j u, xs[j]? = some u → w.cell? ⟨b, o + j, none⟩ = some u)

theorem Rd.of_own {w : World} {base n : Nat} {e : TypeId} {v : Value} {xs : List Value} (h : w.ownsRow base e 1 v n xs) : Rd w w.heap.size v xs := by
  have hl : xs.length = n := by simpa using h.1
  rcases h.2 with ⟨rfl, rfl⟩ | ⟨g, cap, cur, rfl, _, _, hcap, _⟩
  · exact ⟨none, 0, by rw [hl], ⟨fun _ => rfl, by omega⟩, fun hp => by omega⟩
  · refine ⟨some ⟨g, 0, none⟩, cap, by rw [hl], ⟨(fun h => by cases h), by omega⟩, fun _ => ⟨g, 0, rfl, (h.lt g rfl).2, fun j u hu => ?_⟩⟩
    have hj : j < n := by have := (List.getElem?_eq_some_iff.1 hu).1; omega
    rw [Nat.zero_add, h.cellAt j (by omega)]; exact hu

theorem Rd.mono {w w' : World} {B B' : Nat} {v : Value} {xs : List Value} (h : Rd w B v xs) (hB : B ≤ B') (hc : ∀ p : Addr, p.block < B → w'.cell? p = w.cell? p) : Rd w' B' v xs := by
  obtain ⟨A, c, hv, h0, hx⟩ := h
  refine ⟨A, c, hv, h0, fun hp => ?_⟩
  obtain ⟨b, o, hA, hb, hcell⟩ := hx hp
  exact ⟨b, o, hA, by omega, fun j u hu => (hc _ hb).trans (hcell j u hu)⟩

theorem Rd.below {w w' : World} {B C : Nat} {v : Value} {xs : List Value} (h : Rd w B v xs) (hb : Below C w w') (hC : B ≤ C) : Rd w' B v xs :=
  h.mono (Nat.le_refl _) fun _ hp => hb.cell (by omega)

/-- The same elements, but for the last ones. -/
theorem Rd.take {w : World} {B : Nat} {A : Option Addr} {n c : Nat} {xs : List Value} (h : Rd w B (.slice A n c) xs) (m : Nat) (hm : m ≤ xs.length) : Rd w B (.slice A m c) (xs.take m) := by
  obtain ⟨A', c', hv, h0, hx⟩ := h
  injection hv with h1 h2 h3
  subst h1; subst h3
  have hl : (xs.take m).length = m := by simp; omega
  refine ⟨A, c, by rw [hl], ⟨h0.1, by have := h0.2; omega⟩, fun hp => ?_⟩
  obtain ⟨b, o, hA, hb, hc⟩ := hx (by omega)
  refine ⟨b, o, hA, hb, fun j u hu => hc j u ?_⟩
  rw [List.getElem?_take] at hu
  split at hu
  · exact hu
  · cases hu

theorem Rd.nil {w : World} {B : Nat} {v : Value} (h : Rd w B v []) : ∃ A c, v = .slice A 0 c ∧ (A = none → c = 0) := by
  obtain ⟨A, c, hv, h0, _⟩ := h; exact ⟨A, c, hv, h0.1⟩

theorem Rd.empty (w : World) (B : Nat) : Rd w B (.slice none 0 0) [] := ⟨_, 0, rfl, ⟨fun _ => rfl, Nat.le_refl _⟩, fun h => absurd h (by simp)⟩

theorem add_at (b o j : Nat) : (⟨b, o, none⟩ : Addr).add j = ⟨b, o + j, none⟩ := by unfold Addr.add; by_cases z : j = 0 <;> simp [z]

/-- The cells behind a slice's address, however many there are. -/
theorem Rd.cells {w : World} {B : Nat} {ad : Addr} {n c : Nat} {xs : List Value} (h : Rd w B (.slice (some ad) n c) xs) : ∀ j u, xs[j]? = some u → w.cell? (ad.add j) = some u := by
  intro j u hu
  have hj := (List.getElem?_eq_some_iff.1 hu).1
  obtain ⟨A, c', hv, _, hx⟩ := h
  obtain ⟨b, o, hA, hb, hc⟩ := hx (by omega)
  injection hv with hv
  rw [← hv] at hA
  injection hA with hA
  subst hA
  rw [add_at]; exact hc j u hu

def cellsB (f : Nat → Bool) : Array Value := ((List.range 16).map fun i => Value.bool (f i)).toArray

/-- Block 'g' holds these sixteen bools. -/
def Bk (w : World) (g : Nat) (f : Nat → Bool) : Prop := Row w g 123 (cellsB f)

theorem Bk.cell {w : World} {g : Nat} {f : Nat → Bool} (h : Bk w g f) (i : Nat) (hi : i < 16) : w.cell? ⟨g, i, none⟩ = some (.bool (f i)) := by
  rw [Row.cell h i]; unfold cellsB; simp [hi]

theorem Bk.frozen {w : World} {g : Nat} {f : Nat → Bool} (h : Bk w g f) (i : Nat) : w.frozen? ⟨g, i, none⟩ = false := Row.frozen h i

theorem Bk.set {w : World} {g : Nat} {f : Nat → Bool} (h : Bk w g f) (i : Nat) (b : Bool) : Bk (w.setCell ⟨g, i, none⟩ (.bool b)) g (fun j => if j = i then b else f j) := by
  have := Row.set h i (.bool b)
  unfold Bk
  have e : (cellsB f).setIfInBounds i (.bool b) = cellsB (fun j => if j = i then b else f j) := by
    apply Array.ext
    · simp [cellsB]
    · intro j h1 h2
      rw [Array.getElem_setIfInBounds (by simpa using h1)]
      by_cases c : i = j
      · subst c; simp [cellsB]
      · simp [cellsB, c, show ¬ j = i from fun e => c e.symm]
  rw [← e]; exact this

theorem Bk.congr {w : World} {g : Nat} {f f' : Nat → Bool} (h : Bk w g f) (e : ∀ i, i < 16 → f i = f' i) : Bk w g f' := by
  unfold Bk at *
  have : cellsB f = cellsB f' := by
    unfold cellsB
    congr 1
    apply List.map_congr_left
    intro i hi
    rw [e i (by simpa using hi)]
  rw [← this]; exact h

theorem shr_bit (N k : Nat) : ((((N : Int) / 2 ^ k) % 2 == 1) : Bool) = N.testBit k := by
  rw [Nat.testBit_eq_decide_div_mod_eq]
  have h1 : (N : Int) / 2 ^ k = ((N / 2 ^ k : Nat) : Int) := by simp
  rw [h1]
  generalize N / 2 ^ k = z
  rcases Nat.mod_two_eq_zero_or_one z with c | c
  · rw [c, show ((z : Int) % 2) = 0 from by omega]; rfl
  · rw [c, show ((z : Int) % 2) = 1 from by omega]; rfl

theorem shr_bit_t (N k : Nat) : ((((N : Int) / 2 ^ k).tmod 2 == 1) : Bool) = N.testBit k := by
  have h1 : (0 : Int) ≤ (N : Int) / 2 ^ k := by
    have e : (N : Int) / 2 ^ k = ((N / 2 ^ k : Nat) : Int) := by simp
    rw [e]; exact Int.natCast_nonneg _
  rw [Int.tmod_eq_emod_of_nonneg h1]; exact shr_bit N k

/-- A block of bytes that is known whole, as a slice of its own. -/
theorem own_of_row {w : World} {g base : Nat} {l : List Nat} (h : Row w g 5 (bvals l).toArray) (hl : l.length ≤ 20000000) (hb : base ≤ g) :
    w.ownsRow base 5 1 (.slice (some ⟨g, 0, none⟩) l.length l.length) l.length (bvals l) :=
  ⟨by rw [bvals_length]; omega, Or.inr ⟨g, l.length, (bvals l).toArray, rfl, hb, h, Nat.le_refl _, by unfold maxLen; omega, by simp [bvals_length], by simp [bvals_length, List.take_of_length_le]⟩⟩

theorem own_base {w : World} {b b' : Nat} {e : TypeId} {size n : Nat} {v : Value} {xs : List Value} (h : w.ownsRow b e size v n xs) (hb : b' ≤ b) : w.ownsRow b' e size v n xs := by
  obtain ⟨h1, h2⟩ := h
  refine ⟨h1, ?_⟩
  rcases h2 with h2 | ⟨g, cap, cur, rfl, hg, r⟩
  · exact Or.inl h2
  · exact Or.inr ⟨g, cap, cur, rfl, Nat.le_trans hb hg, r⟩

theorem cell_lt {w : World} {a : Addr} {v : Value} (h : w.cell? a = some v) : a.block < w.heap.size := by
  rcases Nat.lt_or_ge a.block w.heap.size with c | c
  · exact c
  · have : w.heap[a.block]? = none := Array.getElem?_eq_none c
    simp [World.cell?, this] at h

theorem arg_some {w : World} {x : Addr} {len cap : Nat} {zs : List Int} (hl : len ≤ cap) (hz : zs.length = cap) (hc : ∀ i, i < zs.length → w.cell? (x.add i) = some (.int .u8 (zs.getD i 0))) (hwz : ∀ n ∈ zs, (Lit.int .u8 n).wf = true) :
    ∃ q : List Nat, q.length = len ∧ (∀ y ∈ q, y < 256) ∧ Rd w w.heap.size (.slice (some x) len cap) (bvals q) := by
  have hlen : ((zs.take len).map Int.toNat).length = len := by simp; omega
  have hb : ∀ n ∈ zs, 0 ≤ n ∧ n ≤ 255 := by
    intro n hn
    have := hwz n hn
    simp only [Lit.wf, Bool.and_eq_true, decide_eq_true_eq] at this
    rw [show IntKind.u8.min = 0 from by decide, show IntKind.u8.max = 255 from by decide] at this
    exact this
  refine ⟨(zs.take len).map Int.toNat, hlen, ?_, ⟨some x, cap, by rw [bvals_length, hlen], ⟨(fun h => by cases h), by rw [bvals_length, hlen]; exact hl⟩, fun hp => ?_⟩⟩
  · intro y hy
    rw [List.mem_map] at hy
    obtain ⟨n, hn, rfl⟩ := hy
    have := hb n (List.mem_of_mem_take hn)
    omega
  · rw [bvals_length, hlen] at hp
    obtain ⟨b, o, rfl, hc'⟩ := ints_at hc (by omega)
    refine ⟨b, o, rfl, cell_lt (hc' 0 (by omega)), fun j u hu => ?_⟩
    have hj : j < len := by have := (List.getElem?_eq_some_iff.1 hu).1; rw [bvals_length, hlen] at this; exact this
    rw [bvals_get _ _ (by rw [hlen]; exact hj)] at hu
    rw [hc' j (by omega), ← hu]
    have e : zs.getD j 0 = zs[j]'(by omega) := by simp [List.getD, show j < zs.length by omega]
    have h0 := hb (zs[j]'(by omega)) (List.getElem_mem _)
    rw [e]
    simp only [List.getElem_map, List.getElem_take]
    rw [Int.toNat_of_nonneg h0.1]

theorem Rd.up {w w' : World} {v : Value} {xs : List Value} (h : Rd w w.heap.size v xs) (hb : Below w.heap.size w w') : Rd w' w'.heap.size v xs :=
  h.mono hb.size fun _ hp => hb.cell hp

theorem Rd.row {w : World} {g : Nat} {l : List Nat} (n : Nat) (hn : l.length = n) (h : Row w g 5 (bvals l).toArray) (hl : l.length ≤ 1000) : Rd w w.heap.size (.slice (some ⟨g, 0, none⟩) n n) (bvals l) := by
  subst hn
  exact Rd.of_own (own_of_row h (by omega) (Nat.le_refl _))

def get (l : List Bool) (k : Nat) : Bool := l.getD k false

/-- The byte at place 'i': the first bit is its highest. -/
def byteAt (l : List Bool) (i : Nat) : Nat :=
  128 * (get l (8 * i)).toNat + 64 * (get l (8 * i + 1)).toNat + 32 * (get l (8 * i + 2)).toNat + 16 * (get l (8 * i + 3)).toNat +
  8 * (get l (8 * i + 4)).toNat + 4 * (get l (8 * i + 5)).toNat + 2 * (get l (8 * i + 6)).toNat + (get l (8 * i + 7)).toNat

def nb (n : Nat) : Nat := (n + 7) / 8

def packTo (l : List Bool) (m : Nat) : List Nat := (List.range m).map (byteAt l)

/-- All of them, and noughts up to a whole byte. -/
def pack (l : List Bool) : List Nat := packTo l (nb l.length)

theorem packTo_length (l : List Bool) (m : Nat) : (packTo l m).length = m := by simp [packTo]

theorem own_far {w : World} {base : Nat} {e : TypeId} {size : Nat} {v : Value} {n : Nat} {xs : List Value} (h : w.ownsRow base e size v n xs) {a : Addr} (ha : v.ownBlock ≠ some a.block) (u : Value) : (w.setCell a u).ownsRow base e size v n xs := by
  obtain ⟨h1, h2⟩ := h
  refine ⟨h1, ?_⟩
  rcases h2 with h2 | ⟨g, cap, cur, rfl, hg, hh, r⟩
  · exact Or.inl h2
  · refine Or.inr ⟨g, cap, cur, rfl, hg, ?_, r⟩
    rw [Below.heap_setCell _ _ _ _ (by intro e; subst e; exact ha rfl)]; exact hh

/-- No block but 'g' has turned that holds other things than bytes. -/
def Still (g : Nat) (w w' : World) : Prop := ∀ (k : Nat) (t : TypeId) (cs : Array Value) (fr : Nat × Nat), t ≠ 5 → k ≠ g → w.heap[k]? = some (.cells cs t fr) → w'.heap[k]? = some (.cells cs t fr)

theorem Still.refl (g : Nat) (w : World) : Still g w w := fun _ _ _ _ _ _ h => h

theorem Still.trans {g : Nat} {a b c : World} (h : Still g a b) (k : Still g b c) : Still g a c := fun i t cs fr ht hg hi => k i t cs fr ht hg (h i t cs fr ht hg hi)

theorem Still.drew {g : Nat} {a w : World} (h : Still g a w) : Still g a w.drew := h

theorem Still.alloc {g : Nat} {a w : World} (h : Still g a w) (o : Obj) : Still g a (w.alloc o) := fun i t cs fr ht hg hi => by
  have h1 := h i t cs fr ht hg hi
  have hlt : i < w.heap.size := by
    rcases Nat.lt_or_ge i w.heap.size with c | c
    · exact c
    · rw [Array.getElem?_eq_none c] at h1; cases h1
  rw [Below.heap_alloc w o i hlt]; exact h1

theorem Still.own {g i : Nat} {a w : World} (h : Still g a w) (u : Value) : Still g a (w.setCell ⟨g, i, none⟩ u) := fun k t cs fr ht hg hi => by
  rw [Below.heap_setCell w ⟨g, i, none⟩ u k hg]; exact h k t cs fr ht hg hi

theorem Still.bytes {g r i : Nat} {a w : World} {cur : Array Value} (h : Still g a w) (hr : w.heap[r]? = some (.cells cur 5 (0, 0))) (u : Value) : Still g a (w.setCell ⟨r, i, none⟩ u) := fun k t cs fr ht hg hi => by
  have h1 := h k t cs fr ht hg hi
  have hk : k ≠ r := by
    rintro rfl
    rw [hr] at h1
    injection h1 with h1
    injection h1 with _ h2
    exact ht h2.symm
  rw [Below.heap_setCell w ⟨r, i, none⟩ u k hk]; exact h1

theorem Still.grown {g : Nat} {a w w' : World} {base n size : Nat} {v : Value} {xs : List Value} (h : Still g a w) (ho : w.ownsRow base 5 size v n xs) (hgr : w.grownBy w' v.ownBlock) : Still g a w' := fun k t cs fr ht hg hi => by
  have h1 := h k t cs fr ht hg hi
  have hlt : k < w.heap.size := by
    rcases Nat.lt_or_ge k w.heap.size with c | c
    · exact c
    · rw [Array.getElem?_eq_none c] at h1; cases h1
  have hne : some k ≠ v.ownBlock := by
    intro e
    rcases ho.2 with ⟨rfl, _⟩ | ⟨g', cap, cur, rfl, _, hh, _⟩
    · simp [Value.ownBlock] at e
    · have : k = g' := by simpa [Value.ownBlock] using e
      subst this
      rw [hh] at h1
      injection h1 with h1
      injection h1 with _ h2
      exact ht h2.symm
  rw [hgr.block k hlt hne]; exact h1

/-- The lowest 'W' bits of a number, the highest of them first. -/
def numBits (N W : Nat) : List Bool := (List.range W).map fun i => N.testBit (W - 1 - i)

theorem numBits_length (N W : Nat) : (numBits N W).length = W := by simp [numBits]

theorem pack_length (l : List Bool) : (pack l).length = nb l.length := by unfold pack; exact packTo_length _ _

/-- The bit at place 'k' of some bytes. -/
def bitQ (q : List Nat) (k : Nat) : Bool := (q.getD (k / 8) 0).testBit (7 - k % 8)

/-- The number of 'i' bits from place 'rd' on, the highest first. -/
def numTo (q : List Nat) (rd : Nat) : Nat → Nat
  | 0 => 0
  | i + 1 => 2 * numTo q rd i + (bitQ q (rd + i)).toNat

/-- Nothing has turned but block 'g'. -/
def Only (g : Nat) (w w' : World) : Prop := ∀ C, Kept C g w w'

theorem Only.refl (g : Nat) (w : World) : Only g w w := fun _ => Kept.refl _ _ _

theorem Only.trans {g : Nat} {a b c : World} (h : Only g a b) (k : Only g b c) : Only g a c := fun C => (h C).trans (k C)

theorem Only.set {g i : Nat} {a w : World} (h : Only g a w) (u : Value) : Only g a (w.setCell ⟨g, i, none⟩ u) := fun C => (h C).set (Or.inr rfl) u

theorem Only.size {g : Nat} {w w' : World} (h : Only g w w') : w.heap.size ≤ w'.heap.size := (h 0).size

/-- What was owned, in another block than 'g', is owned still. -/
theorem Only.owns {g : Nat} {w w' : World} (h : Only g w w') {base : Nat} {e : TypeId} {size n : Nat} {v : Value} {xs : List Value} {t : TypeId} {cs : Array Value} (ho : w.ownsRow base e size v n xs) (hr : Row w g t cs) (ht : e ≠ t) : w'.ownsRow base e size v n xs :=
  (h w.heap.size).owns ho fun k hk => ⟨(ho.lt k hk).2, fun e => own_ne ho hr ht (by rw [hk, e])⟩

theorem ret_bool {a b : Bool} (h : a = b) : Ending.returned (.bool a) = .returned (.bool b) := by rw [h]

theorem byte_bits : ∀ y : Fin 256, 128 * (y.val.testBit 7).toNat + 64 * (y.val.testBit 6).toNat + 32 * (y.val.testBit 5).toNat + 16 * (y.val.testBit 4).toNat +
    8 * (y.val.testBit 3).toNat + 4 * (y.val.testBit 2).toNat + 2 * (y.val.testBit 1).toNat + (y.val.testBit 0).toNat = y.val := by decide +kernel

theorem bitQ_at (q : List Nat) (i k : Nat) (hk : k < 8) : bitQ q (8 * i + k) = (q.getD i 0).testBit (7 - k) := by
  unfold bitQ
  rw [show (8 * i + k) / 8 = i from by omega, show (8 * i + k) % 8 = k from by omega]

/-- The bits of the first 'i' bytes. -/
def upto (q : List Nat) (i : Nat) : List Bool := (List.range (8 * i)).map (bitQ q)

theorem upto_length (q : List Nat) (i : Nat) : (upto q i).length = 8 * i := by simp [upto]

theorem get_upto (q : List Nat) (n k : Nat) (h : k < 8 * n) : get (upto q n) k = bitQ q k := by
  unfold get upto; simp [List.getD, h]

theorem getD_lt {q : List Nat} (hb : ∀ x ∈ q, x < 256) (i : Nat) : q.getD i 0 < 256 := by
  by_cases c : i < q.length
  · have : q.getD i 0 = q[i] := by simp [List.getD, c]
    rw [this]; exact hb _ (List.getElem_mem _)
  · have : q.getD i 0 = 0 := by simp [List.getD, Nat.le_of_not_lt c]
    omega

theorem numTo_byte (q : List Nat) (hb : ∀ x ∈ q, x < 256) (i : Nat) : numTo q (8 * i) 8 = q.getD i 0 := by
  have h := byte_bits ⟨q.getD i 0, getD_lt hb i⟩
  have e0 : bitQ q (8 * i + 0) = (q.getD i 0).testBit 7 := bitQ_at q i 0 (by omega)
  have e1 : bitQ q (8 * i + 1) = (q.getD i 0).testBit 6 := bitQ_at q i 1 (by omega)
  have e2 : bitQ q (8 * i + 2) = (q.getD i 0).testBit 5 := bitQ_at q i 2 (by omega)
  have e3 : bitQ q (8 * i + 3) = (q.getD i 0).testBit 4 := bitQ_at q i 3 (by omega)
  have e4 : bitQ q (8 * i + 4) = (q.getD i 0).testBit 3 := bitQ_at q i 4 (by omega)
  have e5 : bitQ q (8 * i + 5) = (q.getD i 0).testBit 2 := bitQ_at q i 5 (by omega)
  have e6 : bitQ q (8 * i + 6) = (q.getD i 0).testBit 1 := bitQ_at q i 6 (by omega)
  have e7 : bitQ q (8 * i + 7) = (q.getD i 0).testBit 0 := bitQ_at q i 7 (by omega)
  simp only [numTo]
  rw [e0, e1, e2, e3, e4, e5, e6, e7]
  simp only at h
  omega

def cvals (l : List Bool) : List Value := l.map Value.bool

theorem cvals_get (l : List Bool) (i : Nat) (h : i < l.length) : (cvals l)[i]? = some (.bool l[i]) := by simp [cvals, h]

theorem one_new (w : World) (t : TypeId) (x : Value) : ∀ j u, [x][j]? = some u → (w.alloc (.cells #[x] t)).cell? ((⟨w.heap.size, 0, none⟩ : Addr).add j) = some u := by
  intro j u hj
  match j, hj with
  | 0, hj => simp at hj; subst hj; simp [Addr.add]

theorem one_cell {x : Value} (h : x.oneCell' = true) : ∀ u ∈ [x], u.oneCell' = true := by
  intro u hu; rw [List.mem_singleton] at hu; rw [hu]; exact h

/-- The number of 'j' bits from place 'i' on. -/
def hor (l : List Bool) (i : Nat) : Nat → Nat
  | 0 => 0
  | j + 1 => 2 * hor l i j + (get l (i + j)).toNat

/-- The bits that aren't read yet; none: it has failed. -/
abbrev St := Option (List Bool)

def tget (W : Nat) (s : St) : Nat × St :=
  match s with
  | none => (0, none)
  | some l => if l.length < W then (0, none) else (hor l 0 W, some (l.drop W))

theorem tget_long {W : Nat} {l : List Bool} (h : W ≤ l.length) : tget W (some l) = (hor l 0 W, some (l.drop W)) := by simp [tget, show ¬ l.length < W by omega]

def tbind {α β : Type} (p : St → α × St) (f : α → St → β × St) (s : St) : β × St := f (p s).1 (p s).2

def tret {α : Type} (x : α) (s : St) : α × St := (x, s)

def tmany {α : Type} (one : St → α × St) : Nat → St → List α × St
  | 0, s => ([], s)
  | n + 1, s => ((tmany one n s).1 ++ [(one (tmany one n s).2).1], (one (tmany one n s).2).2)

/-- A layout, in whole numbers. -/
structure Lay where
  nodes : List (Int × Int)
  secs : List (Int × Int × Int)
  parts : List (List Int)
  points : List (Int × Int × Int × Int)
  routes : List (List Int)
  speed : Int
  mute : Int
  wait : Int
  cancel : Int
  stay : Int

/-- What has failed stays so. -/
def Strict {α : Type} (p : St → α × St) : Prop := (p none).2 = none

theorem strict_bind {α β : Type} {p : St → α × St} {f : α → St → β × St} (hp : Strict p) (hf : ∀ a, Strict (f a)) : Strict (tbind p f) := by
  show (f (p none).1 (p none).2).2 = none
  rw [show (p none).2 = none from hp]; exact hf _

/-- 'c' is read as 'x', whatever is behind it; cut anywhere, it fails. -/
structure Enc {α : Type} (p : St → α × St) (x : α) (c : List Bool) : Prop where
  back : ∀ r, p (some (c ++ r)) = (x, some r)
  cut : ∀ k, k < c.length → (p (some (c.take k))).2 = none

theorem Enc.bind {α β : Type} {p : St → α × St} {f : α → St → β × St} {x : α} {y : β} {c d : List Bool} (h : Enc p x c) (hf : Enc (f x) y d) (hs : ∀ a, Strict (f a)) : Enc (tbind p f) y (c ++ d) := by
  constructor
  · intro r
    show f (p (some (c ++ d ++ r))).1 (p (some (c ++ d ++ r))).2 = _
    rw [List.append_assoc, h.back (d ++ r)]; exact hf.back r
  · intro k hk
    show (f (p (some ((c ++ d).take k))).1 (p (some ((c ++ d).take k))).2).2 = none
    by_cases hc : k < c.length
    · rw [List.take_append_of_le_length (by omega), h.cut k hc]; exact hs _
    · have e : (c ++ d).take k = c ++ d.take (k - c.length) := by
        rw [List.take_append, List.take_of_length_le (by omega)]
      rw [e, h.back]
      refine hf.cut _ ?_
      rw [List.length_append] at hk; omega

theorem Enc.ret {α : Type} (x : α) : Enc (tret x) x [] := ⟨fun _ => rfl, fun k hk => absurd hk (by simp)⟩

theorem Enc.mono {α : Type} {p : St → α × St} {x y : α} {c d : List Bool} (h : Enc p x c) (hx : x = y) (hc : c = d) : Enc p y d := by subst hx; subst hc; exact h

theorem Enc.many {α β : Type} {one : St → α × St} {f : β → List Bool} {g : β → α} (hs : Strict one) (xs : List β) (h : ∀ x ∈ xs, Enc one (g x) (f x)) : ∀ k, k ≤ xs.length → Enc (tmany one k) ((xs.take k).map g) ((xs.take k).flatMap f) := by
  intro k
  induction k with
  | zero => intro _; exact ⟨fun _ => rfl, fun k hk => absurd hk (by simp)⟩
  | succ k ih =>
    intro hk
    have hb := (ih (by omega)).bind (f := fun l => tbind one fun x => tret (l ++ [x])) ((h _ (List.getElem_mem (show k < xs.length by omega))).bind (Enc.ret _) (fun _ => rfl)) (fun a => strict_bind hs fun _ => rfl)
    rw [List.append_nil] at hb
    refine Enc.mono (p := tmany one (k + 1)) ⟨hb.back, hb.cut⟩ ?_ ?_
    · rw [List.take_succ_eq_append_getElem (by omega), List.map_append]; rfl
    · rw [List.take_succ_eq_append_getElem (by omega), List.flatMap_append]; simp

/-- The lowest bits of a number. -/
def u (n : Int) : Nat := (n % 18446744073709551616).toNat

def nbit (W : Nat) (n : Int) : List Bool := numBits (u n) W

def low (W : Nat) (n : Int) : Int := n % 2 ^ W

theorem low_id (W : Nat) (n : Int) (h0 : 0 ≤ n) (h1 : n < 2 ^ W) : low W n = n := Int.emod_eq_of_lt h0 h1

def eint (n : Int) : List Bool := nbit 8 n

def enode (p : Int × Int) : List Bool := nbit 32 p.1 ++ nbit 32 p.2

def esec (s : Int × Int × Int) : List Bool := nbit 16 s.1 ++ (nbit 8 s.2.1 ++ nbit 8 s.2.2)

def epoint (s : Int × Int × Int × Int) : List Bool := nbit 8 s.1 ++ (nbit 8 s.2.1 ++ (nbit 8 s.2.2.1 ++ nbit 8 s.2.2.2))

def elist {α : Type} (f : α → List Bool) (l : List α) : List Bool := nbit 8 (l.length : Int) ++ l.flatMap f

def erow (l : List Int) : List Bool := elist eint l

def erows (l : List (List Int)) : List Bool := elist erow l

def etimes (L : Lay) : List Bool := nbit 16 L.speed ++ (nbit 16 L.mute ++ (nbit 16 L.wait ++ (nbit 16 L.cancel ++ nbit 16 L.stay)))

/-- What is behind the letters. -/
def ebody (L : Lay) : List Bool := elist enode L.nodes ++ (elist esec L.secs ++ (erows L.parts ++ (elist epoint L.points ++ (erows L.routes ++ etimes L))))

def enc (L : Lay) : List Bool := nbit 8 66 ++ (nbit 8 76 ++ ebody L)

/-- Not too many of anything; nodes whose parts have room. -/
structure Room (L : Lay) : Prop where
  nodes : L.nodes.length ≤ 255
  secs : L.secs.length ≤ 255
  parts : L.parts.length ≤ 255
  points : L.points.length ≤ 255
  routes : L.routes.length ≤ 255
  part : ∀ r ∈ L.parts, r.length ≤ 255
  route : ∀ r ∈ L.routes, r.length ≤ 255
  node : ∀ p ∈ L.nodes, (-2147483648 ≤ p.1 ∧ p.1 < 2147483648) ∧ (-2147483648 ≤ p.2 ∧ p.2 < 2147483648)

/-- The lowest bits of each number. -/
def lows (L : Lay) : Lay :=
  ⟨L.nodes, L.secs.map (fun s => (low 16 s.1, low 8 s.2.1, low 8 s.2.2)), L.parts.map (fun r => r.map (low 8)), L.points.map (fun s => (low 8 s.1, low 8 s.2.1, low 8 s.2.2.1, low 8 s.2.2.2)), L.routes.map (fun r => r.map (low 8)),
    low 16 L.speed, low 16 L.mute, low 16 L.wait, low 16 L.cancel, low 16 L.stay⟩

def ivals (xs : List Int) : List Value := xs.map (Value.int .i64)

def nvals (ps : List (Nat × Nat)) : List Value := ps.map fun p => .complex .f64 p.1 p.2

theorem nvals_length (xs : List (Nat × Nat)) : (nvals xs).length = xs.length := by simp [nvals]

/-- A slice in a block of that type. -/
def Rt (w : World) (t : TypeId) (v : Value) (xs : List Value) : Prop :=
  ∃ (A : Option Addr) (c : Nat), v = .slice A xs.length c ∧ (0 < xs.length → ∃ b o cur fr, A = some ⟨b, o, none⟩ ∧ w.heap[b]? = some (.cells cur t fr) ∧ ∀ j u, xs[j]? = some u → cur[o + j]? = some u)

theorem Rt.cell {w : World} {t : TypeId} {A : Option Addr} {n c : Nat} {xs : List Value} (h : Rt w t (.slice A n c) xs) {j : Nat} {u : Value} (hu : xs[j]? = some u) : ∃ b o, A = some ⟨b, o, none⟩ ∧ w.cell? ⟨b, o + j, none⟩ = some u := by
  have hj := (List.getElem?_eq_some_iff.1 hu).1
  obtain ⟨A', c', hv, hx⟩ := h
  obtain ⟨b, o, cur, fr, hA, hh, hc⟩ := hx (by omega)
  injection hv with h1
  subst h1
  refine ⟨b, o, hA, ?_⟩
  simp [World.cell?, hh, hc j u hu]

theorem nbit_length (W : Nat) (n : Int) : (nbit W n).length = W := numBits_length _ _

theorem Still.of_below {g : Nat} {w w' : World} (h : Below w.heap.size w w') : Still g w w' := fun k t cs fr _ _ hk => by
  have hlt : k < w.heap.size := by
    rcases Nat.lt_or_ge k w.heap.size with c | c
    · exact c
    · rw [Array.getElem?_eq_none c] at hk; cases hk
  rw [h.block k hlt]; exact hk

theorem Still.row {g k : Nat} {w w' : World} (h : Still g w w') {t t' : TypeId} {cs cs' : Array Value} (hr : Row w k t cs) (h5 : t ≠ 5) (hg : Row w g t' cs') (ht : t ≠ t') : Row w' k t cs := h k t cs (0, 0) h5 (Row.ne hr hg ht) hr

theorem Kept.cellD {B g D : Nat} {w w' : World} (h : Kept B g w w') (hD : D ≤ B) (hg : D ≤ g) : ∀ p : Addr, p.block < D → w'.cell? p = w.cell? p := fun p hp =>
  World.cell?_of_block (h.block p.block (by omega) (by omega))

theorem Rd.kept {w w' : World} {D B g : Nat} {v : Value} {xs : List Value} (h : Rd w D v xs) (hk : Kept B g w w') (hD : D ≤ B) (hg : D ≤ g) : Rd w' D v xs := h.mono (Nat.le_refl _) (hk.cellD hD hg)

theorem Rd.fresh {w w' : World} {D : Nat} {v : Value} {xs : List Value} (h : Rd w D v xs) (hb : Below w.heap.size w w') (hD : D ≤ w.heap.size) : Rd w' D v xs := h.below hb hD

/-- Lists of numbers. -/
def RowsAt (w : World) (D : Nat) (v : Value) (rows : List (List Int)) : Prop :=
  ∃ vs : List Value, Rd w D v vs ∧ vs.length = rows.length ∧ ∀ i (h1 : i < vs.length) (h2 : i < rows.length), Rd w D vs[i] (ivals rows[i])

def Secs (w : World) (D : Nat) (v : Value) (xs : List (Int × Int × Int)) : Prop :=
  ∃ (A : Option Addr) (c : Nat), v = .slice A xs.length c ∧ (0 < xs.length → ∃ b o, A = some ⟨b, o, none⟩ ∧ b < D ∧ ∀ j (h : j < xs.length), w.cell? ⟨b, o + j * 3, none⟩ = some (.int .i64 xs[j].1) ∧ w.cell? ⟨b, o + j * 3 + 1, none⟩ = some (.int .i64 xs[j].2.1) ∧ w.cell? ⟨b, o + j * 3 + 2, none⟩ = some (.int .i64 xs[j].2.2))

def Pts (w : World) (D : Nat) (v : Value) (xs : List (Int × Int × Int × Int)) : Prop :=
  ∃ (A : Option Addr) (c : Nat), v = .slice A xs.length c ∧ (0 < xs.length → ∃ b o, A = some ⟨b, o, none⟩ ∧ b < D ∧ ∀ j (h : j < xs.length), w.cell? ⟨b, o + j * 4, none⟩ = some (.int .i64 xs[j].1) ∧ w.cell? ⟨b, o + j * 4 + 1, none⟩ = some (.int .i64 xs[j].2.1) ∧ w.cell? ⟨b, o + j * 4 + 2, none⟩ = some (.int .i64 xs[j].2.2.1) ∧ w.cell? ⟨b, o + j * 4 + 3, none⟩ = some (.int .i64 xs[j].2.2.2))

/-- The words that stand for whole numbers. -/
def FlN (ps : List (Nat × Nat)) (zs : List (Int × Int)) : Prop := ps.length = zs.length ∧ ∀ i (h1 : i < ps.length) (h2 : i < zs.length), Fl 0 ps[i].1 zs[i].1 ∧ Fl 0 ps[i].2 zs[i].2

theorem below2 (w : World) (o1 o2 : Obj) : Below w.heap.size w ((w.alloc o1).alloc o2) := ((Below.refl _ _).alloc (Nat.le_refl _) o1).alloc (by simp) o2

/-- What five slices of a layout hold. -/
structure LayData (w : World) (D : Nat) (vN vS vP vQ vR : Value) (ps : List (Nat × Nat)) (L : Lay) : Prop where
  n : Rd w D vN (nvals ps)
  f : FlN ps L.nodes
  s : Secs w D vS L.secs
  p : RowsAt w D vP L.parts
  q : Pts w D vQ L.points
  r : RowsAt w D vR L.routes

def times (L : Lay) : List Value := [.int .i64 L.speed, .int .i64 L.mute, .int .i64 L.wait, .int .i64 L.cancel, .int .i64 L.stay]

/-- A layout, as a value. -/
def LayV (w : World) (D : Nat) (v : Value) (L : Lay) : Prop :=
  ∃ vN vS vP vQ vR ps, v = .agg #[vN, vS, vP, vQ, vR, .int .i64 L.speed, .int .i64 L.mute, .int .i64 L.wait, .int .i64 L.cancel, .int .i64 L.stay] ∧ LayData w D vN vS vP vQ vR ps L

theorem Secs.mono {w w' : World} {D D' : Nat} {v : Value} {xs : List (Int × Int × Int)} (h : Secs w D v xs) (hD : D ≤ D') (hc : ∀ p : Addr, p.block < D → w'.cell? p = w.cell? p) : Secs w' D' v xs := by
  obtain ⟨A, c, hv, hx⟩ := h
  refine ⟨A, c, hv, fun hp => ?_⟩
  obtain ⟨b, o, hA, hb, hcell⟩ := hx hp
  exact ⟨b, o, hA, by omega, fun j hj => ⟨(hc _ hb).trans (hcell j hj).1, (hc _ hb).trans (hcell j hj).2.1, (hc _ hb).trans (hcell j hj).2.2⟩⟩

theorem Pts.mono {w w' : World} {D D' : Nat} {v : Value} {xs : List (Int × Int × Int × Int)} (h : Pts w D v xs) (hD : D ≤ D') (hc : ∀ p : Addr, p.block < D → w'.cell? p = w.cell? p) : Pts w' D' v xs := by
  obtain ⟨A, c, hv, hx⟩ := h
  refine ⟨A, c, hv, fun hp => ?_⟩
  obtain ⟨b, o, hA, hb, hcell⟩ := hx hp
  exact ⟨b, o, hA, by omega, fun j hj => ⟨(hc _ hb).trans (hcell j hj).1, (hc _ hb).trans (hcell j hj).2.1, (hc _ hb).trans (hcell j hj).2.2.1, (hc _ hb).trans (hcell j hj).2.2.2⟩⟩

theorem RowsAt.mono {w w' : World} {D D' : Nat} {v : Value} {xs : List (List Int)} (h : RowsAt w D v xs) (hD : D ≤ D') (hc : ∀ p : Addr, p.block < D → w'.cell? p = w.cell? p) : RowsAt w' D' v xs := by
  obtain ⟨vs, h1, h2, h3⟩ := h
  exact ⟨vs, h1.mono hD hc, h2, fun i a b => (h3 i a b).mono hD hc⟩

theorem LayData.mono {w w' : World} {D D' : Nat} {vN vS vP vQ vR : Value} {ps : List (Nat × Nat)} {L : Lay} (h : LayData w D vN vS vP vQ vR ps L) (hD : D ≤ D') (hc : ∀ p : Addr, p.block < D → w'.cell? p = w.cell? p) : LayData w' D' vN vS vP vQ vR ps L :=
  ⟨h.n.mono hD hc, h.f, h.s.mono hD hc, h.p.mono hD hc, h.q.mono hD hc, h.r.mono hD hc⟩

theorem LayV.mono {w w' : World} {D D' : Nat} {v : Value} {L : Lay} (h : LayV w D v L) (hD : D ≤ D') (hc : ∀ p : Addr, p.block < D → w'.cell? p = w.cell? p) : LayV w' D' v L := by
  obtain ⟨a, b, c, d, e, ps, hv, hd⟩ := h
  exact ⟨a, b, c, d, e, ps, hv, hd.mono hD hc⟩

theorem LayV.up {w w' : World} {v : Value} {L : Lay} (h : LayV w w.heap.size v L) (hb : Below w.heap.size w w') : LayV w' w'.heap.size v L := h.mono hb.size fun _ hp => hb.cell hp

theorem LayData.slices {w : World} {D : Nat} {vN vS vP vQ vR : Value} {ps : List (Nat × Nat)} {L : Lay} (h : LayData w D vN vS vP vQ vR ps L) :
    (∃ A c, vN = .slice A L.nodes.length c) ∧ (∃ A c, vS = .slice A L.secs.length c) ∧ (∃ A c, vP = .slice A L.parts.length c) ∧ (∃ A c, vQ = .slice A L.points.length c) ∧ (∃ A c, vR = .slice A L.routes.length c) := by
  refine ⟨?_, ?_, ?_, ?_, ?_⟩
  · obtain ⟨A, c, rfl, _⟩ := h.n; exact ⟨A, c, by rw [nvals_length, h.f.1]⟩
  · obtain ⟨A, c, rfl, _⟩ := h.s; exact ⟨A, c, rfl⟩
  · obtain ⟨vs, ⟨A, c, rfl, _⟩, hl, _⟩ := h.p; exact ⟨A, c, by rw [hl]⟩
  · obtain ⟨A, c, rfl, _⟩ := h.q; exact ⟨A, c, rfl⟩
  · obtain ⟨vs, ⟨A, c, rfl, _⟩, hl, _⟩ := h.r; exact ⟨A, c, by rw [hl]⟩

/-- Not too many of anything. -/
structure Modest (L : Lay) : Prop where
  nodes : L.nodes.length ≤ 1000
  secs : L.secs.length ≤ 1000
  parts : L.parts.length ≤ 1000
  points : L.points.length ≤ 1000
  routes : L.routes.length ≤ 1000
  part : ∀ r ∈ L.parts, r.length ≤ 1000
  route : ∀ r ∈ L.routes, r.length ≤ 1000
  node : ∀ p ∈ L.nodes, p.1.natAbs ≤ 4000000000 ∧ p.2.natAbs ≤ 4000000000
  bits : (enc L).length ≤ 100000

/-- Bits, as the document has them. -/
def Src (w : World) (v : Value) (l : List Bool) : Prop := (v = .slice none 0 0 ∧ l = []) ∨ ∃ b, w.ownsRow b 4 1 v l.length (cvals l)

theorem Src.below {w w' : World} {v : Value} {l : List Bool} (h : Src w v l) (hb : Below w.heap.size w w') : Src w' v l := by
  rcases h with h | ⟨b, ho⟩
  · exact Or.inl h
  · exact Or.inr ⟨b, (Kept.of_below (g := w.heap.size) hb).owns ho fun k hk => ⟨(ho.lt k hk).2, by have := (ho.lt k hk).2; omega⟩⟩

theorem Src.nil (w : World) : Src w (.slice none 0 0) [] := Or.inl ⟨rfl, rfl⟩

theorem Src.rd {w : World} {v : Value} {l : List Bool} (h : Src w v l) : Rd w w.heap.size v (cvals l) := by
  rcases h with ⟨rfl, rfl⟩ | ⟨b, ho⟩
  · exact Rd.empty _ _
  · exact Rd.of_own ho

def RetSrc (l : List Bool) (w : World) (e : Ending) (w' : World) : Prop := ∃ v', e = .returned v' ∧ Src w' v' l ∧ Below w.heap.size w w'

theorem RowsAt.up {w w' : World} {v : Value} {xs : List (List Int)} (h : RowsAt w w.heap.size v xs) (hb : Below w.heap.size w w') : RowsAt w' w'.heap.size v xs := h.mono hb.size fun _ hp => hb.cell hp

theorem Below.row {B k : Nat} {w w' : World} (h : Below B w w') {t : TypeId} {cs : Array Value} (hr : Row w k t cs) (hk : k < B) : Row w' k t cs := (h.block k hk).trans hr

theorem Rd.at {w : World} {D : Nat} {A : Option Addr} {n c : Nat} {xs : List Value} (h : Rd w D (.slice A n c) xs) {i : Nat} {u : Value} (hu : xs[i]? = some u) : ∃ b o, A = some ⟨b, o, none⟩ ∧ b < D ∧ w.cell? ⟨b, o + i, none⟩ = some u := by
  have hj := (List.getElem?_eq_some_iff.1 hu).1
  obtain ⟨A', c', hv, _, hx⟩ := h
  obtain ⟨b, o, hA, hb, hc⟩ := hx (by omega)
  injection hv with h1
  subst h1
  exact ⟨b, o, hA, hb, hc i u hu⟩

theorem Secs.at {w : World} {D : Nat} {A : Option Addr} {n c : Nat} {xs : List (Int × Int × Int)} (h : Secs w D (.slice A n c) xs) (i : Nat) (hi : i < xs.length) : ∃ b o, A = some ⟨b, o, none⟩ ∧ b < D ∧ w.cell? ⟨b, o + i * 3, none⟩ = some (.int .i64 xs[i].1) ∧ w.cell? ⟨b, o + i * 3 + 1, none⟩ = some (.int .i64 xs[i].2.1) ∧ w.cell? ⟨b, o + i * 3 + 2, none⟩ = some (.int .i64 xs[i].2.2) := by
  obtain ⟨A', c', hv, hx⟩ := h
  obtain ⟨b, o, hA, hb, hc⟩ := hx (by omega)
  injection hv with h1
  subst h1
  exact ⟨b, o, hA, hb, hc i hi⟩

theorem Pts.at {w : World} {D : Nat} {A : Option Addr} {n c : Nat} {xs : List (Int × Int × Int × Int)} (h : Pts w D (.slice A n c) xs) (i : Nat) (hi : i < xs.length) : ∃ b o, A = some ⟨b, o, none⟩ ∧ b < D ∧ w.cell? ⟨b, o + i * 4, none⟩ = some (.int .i64 xs[i].1) ∧ w.cell? ⟨b, o + i * 4 + 1, none⟩ = some (.int .i64 xs[i].2.1) ∧ w.cell? ⟨b, o + i * 4 + 2, none⟩ = some (.int .i64 xs[i].2.2.1) ∧ w.cell? ⟨b, o + i * 4 + 3, none⟩ = some (.int .i64 xs[i].2.2.2) := by
  obtain ⟨A', c', hv, hx⟩ := h
  obtain ⟨b, o, hA, hb, hc⟩ := hx (by omega)
  injection hv with h1
  subst h1
  exact ⟨b, o, hA, hb, hc i hi⟩

theorem RetSrc.row {l : List Bool} {w w' : World} {e : Ending} (h : RetSrc l w e w') {k : Nat} {t : TypeId} {cs : Array Value} (hr : Row w k t cs) : Row w' k t cs := by
  obtain ⟨v, he, hs, hb⟩ := h
  exact Below.row hb hr hr.lt

/-- Nothing that was there has turned but the blocks of 'S'. -/
structure KeptL (S : List Nat) (w w' : World) : Prop where
  os : w'.os = w.os
  tape : w'.tape = w.tape
  output : w'.output = w.output
  size : w.heap.size ≤ w'.heap.size
  block : ∀ k, k < w.heap.size → k ∉ S → w'.heap[k]? = w.heap[k]?

theorem KeptL.refl (S : List Nat) (w : World) : KeptL S w w := ⟨rfl, rfl, rfl, Nat.le_refl _, fun _ _ _ => rfl⟩

theorem KeptL.trans {S : List Nat} {a b c : World} (h : KeptL S a b) (k : KeptL S b c) : KeptL S a c :=
  ⟨k.os.trans h.os, k.tape.trans h.tape, k.output.trans h.output, Nat.le_trans h.size k.size, fun i hi hg => (k.block i (Nat.lt_of_lt_of_le hi h.size) hg).trans (h.block i hi hg)⟩

theorem KeptL.mono {S S' : List Nat} {w w' : World} (h : KeptL S w w') (hs : ∀ k ∈ S, k ∈ S') : KeptL S' w w' :=
  ⟨h.os, h.tape, h.output, h.size, fun k hk hn => h.block k hk fun hm => hn (hs k hm)⟩

theorem KeptL.of_below {S : List Nat} {w w' : World} (h : Below w.heap.size w w') : KeptL S w w' := ⟨h.os, h.tape, h.output, h.size, fun k hk _ => h.block k hk⟩

theorem KeptL.alloc {S : List Nat} {a w : World} (h : KeptL S a w) (o : Obj) : KeptL S a (w.alloc o) := h.trans (KeptL.of_below ((Below.refl _ _).alloc (Nat.le_refl _) o))

theorem KeptL.set {S : List Nat} {a w : World} (h : KeptL S a w) {p : Addr} (hp : p.block ∈ S) (u : Value) : KeptL S a (w.setCell p u) :=
  h.trans ⟨rfl, rfl, rfl, by simp [World.setCell], fun k _ hn => Below.heap_setCell _ _ _ _ (by rintro rfl; exact hn hp)⟩

/-- What is new need not be named. -/
theorem KeptL.fresh {S : List Nat} {k : Nat} {w w' : World} (h : KeptL (k :: S) w w') (hk : w.heap.size ≤ k) : KeptL S w w' :=
  ⟨h.os, h.tape, h.output, h.size, fun i hi hn => h.block i hi (by intro hm; rcases List.mem_cons.1 hm with e | e
                                                                   · omega
                                                                   · exact hn e)⟩

theorem KeptL.below {S : List Nat} {B : Nat} {w w' : World} (h : KeptL S w w') (hB : B ≤ w.heap.size) (hS : ∀ k ∈ S, B ≤ k) : Below B w w' :=
  ⟨h.os, h.tape, h.output, h.size, fun k hk => h.block k (by omega) (by intro hm; have := hS k hm; omega)⟩

theorem KeptL.row {S : List Nat} {w w' : World} (h : KeptL S w w') {k : Nat} {t : TypeId} {cs : Array Value} (hr : Row w k t cs) (hk : k ∉ S) : Row w' k t cs := (h.block k hr.lt hk).trans hr

/-- A slice in a block of that type, with its room. -/
def Tl (w : World) (t : TypeId) (v : Value) (xs : List Value) : Prop :=
  ∃ (A : Option Addr) (c : Nat), v = .slice A xs.length c ∧ ((A = none → c = 0) ∧ xs.length ≤ c) ∧ (0 < xs.length → ∃ b o cur fr, A = some ⟨b, o, none⟩ ∧ w.heap[b]? = some (.cells cur t fr) ∧ ∀ j u, xs[j]? = some u → cur[o + j]? = some u)

theorem heap_lt {w : World} {b : Nat} {o : Obj} (h : w.heap[b]? = some o) : b < w.heap.size := by
  rcases Nat.lt_or_ge b w.heap.size with c | c
  · exact c
  · rw [Array.getElem?_eq_none c] at h; cases h

theorem Tl.rd {w : World} {t : TypeId} {v : Value} {xs : List Value} (h : Tl w t v xs) : Rd w w.heap.size v xs := by
  obtain ⟨A, c, hv, h0, hx⟩ := h
  refine ⟨A, c, hv, h0, fun hp => ?_⟩
  obtain ⟨b, o, cur, fr, hA, hh, hc⟩ := hx hp
  exact ⟨b, o, hA, heap_lt hh, fun j u hu => by simp [World.cell?, hh, hc j u hu]⟩

/-- The blocks of 'S' are of other types than 't'. -/
def Other (w : World) (t : TypeId) (S : List Nat) : Prop := ∀ k ∈ S, ∃ t' cs, t ≠ t' ∧ Row w k t' cs

theorem Other.one {w : World} {t t' : TypeId} {g : Nat} {cs : Array Value} (h : Row w g t' cs) (ht : t ≠ t') : Other w t [g] := by
  intro k hk; rw [List.mem_singleton] at hk; subst hk; exact ⟨t', cs, ht, h⟩

theorem Other.two {w : World} {t t' t'' : TypeId} {g g' : Nat} {cs cs' : Array Value} (h : Row w g t' cs) (ht : t ≠ t') (h' : Row w g' t'' cs') (ht' : t ≠ t'') : Other w t [g, g'] := by
  intro k hk
  rcases List.mem_cons.1 hk with e | e
  · subst e; exact ⟨t', cs, ht, h⟩
  · rw [List.mem_singleton] at e; subst e; exact ⟨t'', cs', ht', h'⟩

theorem Other.ne {w : World} {t : TypeId} {S : List Nat} (h : Other w t S) {b : Nat} {cur : Array Value} {fr : Nat × Nat} (hb : w.heap[b]? = some (.cells cur t fr)) : b ∉ S := by
  intro hm
  obtain ⟨t', cs, ht, hr⟩ := h b hm
  unfold Row at hr
  rw [hb] at hr
  injection hr with hr
  injection hr with _ hr
  exact ht hr

theorem Tl.kept {w w' : World} {t : TypeId} {v : Value} {xs : List Value} {S : List Nat} (h : Tl w t v xs) (hk : KeptL S w w') (ho : Other w t S) : Tl w' t v xs := by
  obtain ⟨A, c, hv, h0, hx⟩ := h
  refine ⟨A, c, hv, h0, fun hp => ?_⟩
  obtain ⟨b, o, cur, fr, hA, hh, hc⟩ := hx hp
  exact ⟨b, o, cur, fr, hA, (hk.block b (heap_lt hh) (ho.ne hh)).trans hh, hc⟩

theorem Tl.nil (w : World) (t : TypeId) : Tl w t (.slice none 0 0) [] := ⟨none, 0, rfl, ⟨fun _ => rfl, Nat.le_refl _⟩, fun (h : 0 < ([] : List Value).length) => absurd h (by simp)⟩

/-- A block that is known, from its head on. -/
theorem Tl.row {w : World} {g : Nat} {t : TypeId} {cs : Array Value} {xs : List Value} (n : Nat) (h : Row w g t cs) (hn : xs.length = n) (hc : ∀ (j : Nat) (u : Value), xs[j]? = some u → cs[j]? = some u) : Tl w t (.slice (some ⟨g, 0, none⟩) n n) xs := by
  subst hn
  exact ⟨_, _, rfl, ⟨(fun h => by cases h), Nat.le_refl _⟩, fun _ => ⟨g, 0, cs, (0, 0), rfl, h, fun j u hu => by rw [Nat.zero_add]; exact hc j u hu⟩⟩

theorem hor_rem (q : List Nat) (rd i : Nat) (h : rd + i ≤ 8 * q.length) : hor ((upto q q.length).drop rd) 0 i = numTo q rd i := by
  induction i with
  | zero => rfl
  | succ i ih =>
    show 2 * hor _ 0 i + (get _ (0 + i)).toNat = 2 * numTo q rd i + (bitQ q (rd + i)).toNat
    rw [ih (by omega)]
    have : get ((upto q q.length).drop rd) (0 + i) = bitQ q (rd + i) := by
      rw [← get_upto q q.length (rd + i) (by omega)]
      unfold get
      simp [List.getD]
    rw [this]

theorem Tl.cell {w : World} {t : TypeId} {A : Option Addr} {n c : Nat} {xs : List Value} (h : Tl w t (.slice A n c) xs) {j : Nat} {u : Value} (hu : xs[j]? = some u) : ∃ b o, A = some ⟨b, o, none⟩ ∧ w.cell? ⟨b, o + j, none⟩ = some u := by
  obtain ⟨b, o, hA, _, hc⟩ := h.rd.at hu
  exact ⟨b, o, hA, hc⟩

def IsNodes (w : World) (v : Value) (zs : List (Int × Int)) : Prop := ∃ ps, Tl w 36 v (nvals ps) ∧ FlN ps zs

def IsRows (w : World) (v : Value) (rows : List (List Int)) : Prop := ∃ vs, Tl w 42 v vs ∧ vs.length = rows.length ∧ ∀ i (h1 : i < vs.length) (h2 : i < rows.length), Tl w 3 vs[i] (ivals rows[i])

/-- Sections that fill a block from its head on. -/
def FillS (cur : Array Value) (xs : List (Int × Int × Int)) : Prop := ∀ j (h : j < xs.length), cur[j * 3]? = some (.int .i64 xs[j].1) ∧ cur[j * 3 + 1]? = some (.int .i64 xs[j].2.1) ∧ cur[j * 3 + 2]? = some (.int .i64 xs[j].2.2)

def FillP (cur : Array Value) (xs : List (Int × Int × Int × Int)) : Prop := ∀ j (h : j < xs.length), cur[j * 4]? = some (.int .i64 xs[j].1) ∧ cur[j * 4 + 1]? = some (.int .i64 xs[j].2.1) ∧ cur[j * 4 + 2]? = some (.int .i64 xs[j].2.2.1) ∧ cur[j * 4 + 3]? = some (.int .i64 xs[j].2.2.2)

def IsSecs (w : World) (v : Value) (xs : List (Int × Int × Int)) : Prop := ∃ (A : Option Addr) (c : Nat), v = .slice A xs.length c ∧ (0 < xs.length → ∃ b cur fr, A = some ⟨b, 0, none⟩ ∧ w.heap[b]? = some (.cells cur 39 fr) ∧ FillS cur xs)

def IsPoints (w : World) (v : Value) (xs : List (Int × Int × Int × Int)) : Prop := ∃ (A : Option Addr) (c : Nat), v = .slice A xs.length c ∧ (0 < xs.length → ∃ b cur fr, A = some ⟨b, 0, none⟩ ∧ w.heap[b]? = some (.cells cur 41 fr) ∧ FillP cur xs)

theorem FillS.snoc {cur : Array Value} {xs : List (Int × Int × Int)} {i n : Nat} {x : Int × Int × Int} (h : FillS cur xs) (hl : xs.length = i) (hi : i < n) (hs : cur.size = n * 3) : FillS (((cur.setIfInBounds (i * 3) (.int .i64 x.1)).setIfInBounds (i * 3 + 1) (.int .i64 x.2.1)).setIfInBounds (i * 3 + 2) (.int .i64 x.2.2)) (xs ++ [x]) := by
  intro j hj
  rw [List.length_append] at hj
  simp only [List.length_cons, List.length_nil] at hj
  rcases Nat.lt_or_ge j i with c | c
  · obtain ⟨a, b, d⟩ := h j (by omega)
    rw [List.getElem_append_left (by omega)]
    refine ⟨?_, ?_, ?_⟩
    · rw [Array.getElem?_setIfInBounds_ne (by omega), Array.getElem?_setIfInBounds_ne (by omega), Array.getElem?_setIfInBounds_ne (by omega)]; exact a
    · rw [Array.getElem?_setIfInBounds_ne (by omega), Array.getElem?_setIfInBounds_ne (by omega), Array.getElem?_setIfInBounds_ne (by omega)]; exact b
    · rw [Array.getElem?_setIfInBounds_ne (by omega), Array.getElem?_setIfInBounds_ne (by omega), Array.getElem?_setIfInBounds_ne (by omega)]; exact d
  · obtain rfl : j = i := by omega
    rw [List.getElem_append_right (by omega)]
    simp only [hl, Nat.sub_self, List.getElem_cons_zero]
    refine ⟨?_, ?_, ?_⟩
    · rw [Array.getElem?_setIfInBounds_ne (by omega), Array.getElem?_setIfInBounds_ne (by omega), Array.getElem?_setIfInBounds_self_of_lt (by first | omega | (simp only [Array.size_setIfInBounds]; omega))]
    · rw [Array.getElem?_setIfInBounds_ne (by omega), Array.getElem?_setIfInBounds_self_of_lt (by first | omega | (simp only [Array.size_setIfInBounds]; omega))]
    · rw [Array.getElem?_setIfInBounds_self_of_lt (by first | omega | (simp only [Array.size_setIfInBounds]; omega))]

theorem FillP.snoc {cur : Array Value} {xs : List (Int × Int × Int × Int)} {i n : Nat} {x : Int × Int × Int × Int} (h : FillP cur xs) (hl : xs.length = i) (hi : i < n) (hs : cur.size = n * 4) : FillP ((((cur.setIfInBounds (i * 4) (.int .i64 x.1)).setIfInBounds (i * 4 + 1) (.int .i64 x.2.1)).setIfInBounds (i * 4 + 2) (.int .i64 x.2.2.1)).setIfInBounds (i * 4 + 3) (.int .i64 x.2.2.2)) (xs ++ [x]) := by
  intro j hj
  rw [List.length_append] at hj
  simp only [List.length_cons, List.length_nil] at hj
  rcases Nat.lt_or_ge j i with c | c
  · obtain ⟨a, b, d, e⟩ := h j (by omega)
    rw [List.getElem_append_left (by omega)]
    refine ⟨?_, ?_, ?_, ?_⟩
    · rw [Array.getElem?_setIfInBounds_ne (by omega), Array.getElem?_setIfInBounds_ne (by omega), Array.getElem?_setIfInBounds_ne (by omega), Array.getElem?_setIfInBounds_ne (by omega)]; exact a
    · rw [Array.getElem?_setIfInBounds_ne (by omega), Array.getElem?_setIfInBounds_ne (by omega), Array.getElem?_setIfInBounds_ne (by omega), Array.getElem?_setIfInBounds_ne (by omega)]; exact b
    · rw [Array.getElem?_setIfInBounds_ne (by omega), Array.getElem?_setIfInBounds_ne (by omega), Array.getElem?_setIfInBounds_ne (by omega), Array.getElem?_setIfInBounds_ne (by omega)]; exact d
    · rw [Array.getElem?_setIfInBounds_ne (by omega), Array.getElem?_setIfInBounds_ne (by omega), Array.getElem?_setIfInBounds_ne (by omega), Array.getElem?_setIfInBounds_ne (by omega)]; exact e
  · obtain rfl : j = i := by omega
    rw [List.getElem_append_right (by omega)]
    simp only [hl, Nat.sub_self, List.getElem_cons_zero]
    refine ⟨?_, ?_, ?_, ?_⟩
    · rw [Array.getElem?_setIfInBounds_ne (by omega), Array.getElem?_setIfInBounds_ne (by omega), Array.getElem?_setIfInBounds_ne (by omega), Array.getElem?_setIfInBounds_self_of_lt (by first | omega | (simp only [Array.size_setIfInBounds]; omega))]
    · rw [Array.getElem?_setIfInBounds_ne (by omega), Array.getElem?_setIfInBounds_ne (by omega), Array.getElem?_setIfInBounds_self_of_lt (by first | omega | (simp only [Array.size_setIfInBounds]; omega))]
    · rw [Array.getElem?_setIfInBounds_ne (by omega), Array.getElem?_setIfInBounds_self_of_lt (by first | omega | (simp only [Array.size_setIfInBounds]; omega))]
    · rw [Array.getElem?_setIfInBounds_self_of_lt (by first | omega | (simp only [Array.size_setIfInBounds]; omega))]

theorem FlN.snoc {ps : List (Nat × Nat)} {zs : List (Int × Int)} {x y : Nat} {z : Int × Int} (h : FlN ps zs) (hx : Fl 0 x z.1) (hy : Fl 0 y z.2) : FlN (ps ++ [(x, y)]) (zs ++ [z]) := by
  refine ⟨by simp [h.1], fun i h1 h2 => ?_⟩
  rw [List.length_append] at h1
  simp only [List.length_cons, List.length_nil] at h1
  rcases Nat.lt_or_ge i ps.length with c | c
  · rw [List.getElem_append_left c, List.getElem_append_left (by have := h.1; omega)]
    exact h.2 i c (by have := h.1; omega)
  · obtain rfl : i = ps.length := by omega
    have e : ps.length = zs.length := h.1
    rw [List.getElem_append_right (Nat.le_refl _), List.getElem_append_right (by omega)]
    simp only [e, Nat.sub_self, List.getElem_cons_zero]
    exact ⟨hx, hy⟩

theorem IsNodes.kept {w w' : World} {v : Value} {zs : List (Int × Int)} {S : List Nat} (h : IsNodes w v zs) (hk : KeptL S w w') (ho : Other w 36 S) : IsNodes w' v zs := by
  obtain ⟨ps, h1, h2⟩ := h; exact ⟨ps, h1.kept hk ho, h2⟩

theorem IsRows.kept {w w' : World} {v : Value} {zs : List (List Int)} {S : List Nat} (h : IsRows w v zs) (hk : KeptL S w w') (ho : Other w 42 S) (ho3 : Other w 3 S) : IsRows w' v zs := by
  obtain ⟨vs, h1, h2, h3⟩ := h; exact ⟨vs, h1.kept hk ho, h2, fun i a b => (h3 i a b).kept hk ho3⟩

theorem IsSecs.kept {w w' : World} {v : Value} {zs : List (Int × Int × Int)} {S : List Nat} (h : IsSecs w v zs) (hk : KeptL S w w') (ho : Other w 39 S) : IsSecs w' v zs := by
  obtain ⟨A, c, hv, hx⟩ := h
  refine ⟨A, c, hv, fun hp => ?_⟩
  obtain ⟨b, cur, fr, hA, hh, hc⟩ := hx hp
  exact ⟨b, cur, fr, hA, (hk.block b (heap_lt hh) (ho.ne hh)).trans hh, hc⟩

theorem IsPoints.kept {w w' : World} {v : Value} {zs : List (Int × Int × Int × Int)} {S : List Nat} (h : IsPoints w v zs) (hk : KeptL S w w') (ho : Other w 41 S) : IsPoints w' v zs := by
  obtain ⟨A, c, hv, hx⟩ := h
  refine ⟨A, c, hv, fun hp => ?_⟩
  obtain ⟨b, cur, fr, hA, hh, hc⟩ := hx hp
  exact ⟨b, cur, fr, hA, (hk.block b (heap_lt hh) (ho.ne hh)).trans hh, hc⟩

theorem IsNodes.slice {w : World} {v : Value} {zs : List (Int × Int)} (h : IsNodes w v zs) : ∃ A c, v = .slice A zs.length c := by
  obtain ⟨ps, ⟨A, c, hv, _⟩, hf⟩ := h; exact ⟨A, c, by rw [hv, nvals_length, hf.1]⟩

theorem IsRows.slice {w : World} {v : Value} {zs : List (List Int)} (h : IsRows w v zs) : ∃ A c, v = .slice A zs.length c := by
  obtain ⟨vs, ⟨A, c, hv, _⟩, hl, _⟩ := h; exact ⟨A, c, by rw [hv, hl]⟩

theorem IsSecs.slice {w : World} {v : Value} {zs : List (Int × Int × Int)} (h : IsSecs w v zs) : ∃ A c, v = .slice A zs.length c := by
  obtain ⟨A, c, hv, _⟩ := h; exact ⟨A, c, hv⟩

theorem IsPoints.slice {w : World} {v : Value} {zs : List (Int × Int × Int × Int)} (h : IsPoints w v zs) : ∃ A c, v = .slice A zs.length c := by
  obtain ⟨A, c, hv, _⟩ := h; exact ⟨A, c, hv⟩

/-- What five slices hold that were read. -/
structure Five (w : World) (vN vS vP vQ vR : Value) (L : Lay) : Prop where
  n : IsNodes w vN L.nodes
  s : IsSecs w vS L.secs
  p : IsRows w vP L.parts
  q : IsPoints w vQ L.points
  r : IsRows w vR L.routes

theorem Five.kept {w w' : World} {vN vS vP vQ vR : Value} {L : Lay} {S : List Nat} (h : Five w vN vS vP vQ vR L) (hk : KeptL S w w') (ho : ∀ t ∈ [36, 39, 42, 41, 3], Other w t S) : Five w' vN vS vP vQ vR L :=
  ⟨h.n.kept hk (ho 36 (by simp)), h.s.kept hk (ho 39 (by simp)), h.p.kept hk (ho 42 (by simp)) (ho 3 (by simp)), h.q.kept hk (ho 41 (by simp)), h.r.kept hk (ho 42 (by simp)) (ho 3 (by simp))⟩

def IsLay (w : World) (v : Value) (L : Lay) : Prop :=
  ∃ vN vS vP vQ vR, v = .agg #[vN, vS, vP, vQ, vR, .int .i64 L.speed, .int .i64 L.mute, .int .i64 L.wait, .int .i64 L.cancel, .int .i64 L.stay] ∧ Five w vN vS vP vQ vR L

theorem IsRows.at {w : World} {v : Value} {zs : List (List Int)} (h : IsRows w v zs) : RowsAt w w.heap.size v zs := by
  obtain ⟨vs, h1, h2, h3⟩ := h
  exact ⟨vs, h1.rd, h2, fun i a b => (h3 i a b).rd⟩

theorem IsSecs.at {w : World} {v : Value} {zs : List (Int × Int × Int)} (h : IsSecs w v zs) : Secs w w.heap.size v zs := by
  obtain ⟨A, c, hv, hx⟩ := h
  refine ⟨A, c, hv, fun hp => ?_⟩
  obtain ⟨b, cur, fr, hA, hh, hc⟩ := hx hp
  refine ⟨b, 0, hA, heap_lt hh, fun j hj => ?_⟩
  obtain ⟨a1, a2, a3⟩ := hc j hj
  simp only [Nat.zero_add]
  exact ⟨by simp [World.cell?, hh, a1], by simp [World.cell?, hh, a2], by simp [World.cell?, hh, a3]⟩

theorem IsPoints.at {w : World} {v : Value} {zs : List (Int × Int × Int × Int)} (h : IsPoints w v zs) : Pts w w.heap.size v zs := by
  obtain ⟨A, c, hv, hx⟩ := h
  refine ⟨A, c, hv, fun hp => ?_⟩
  obtain ⟨b, cur, fr, hA, hh, hc⟩ := hx hp
  refine ⟨b, 0, hA, heap_lt hh, fun j hj => ?_⟩
  obtain ⟨a1, a2, a3, a4⟩ := hc j hj
  simp only [Nat.zero_add]
  exact ⟨by simp [World.cell?, hh, a1], by simp [World.cell?, hh, a2], by simp [World.cell?, hh, a3], by simp [World.cell?, hh, a4]⟩

theorem IsLay.v {w : World} {v : Value} {L : Lay} (h : IsLay w v L) : LayV w w.heap.size v L := by
  obtain ⟨a, b, c, d, e, hv, hf⟩ := h
  obtain ⟨ps, h1, h2⟩ := hf.n
  exact ⟨a, b, c, d, e, ps, hv, ⟨h1.rd, h2, hf.s.at, hf.p.at, hf.q.at, hf.r.at⟩⟩

def L0 : Lay := ⟨[], [], [], [], [], 0, 0, 0, 0, 0⟩

def body (o : List Nat) : St := some (upto o o.length)

theorem cell_block {w : World} {a : Addr} {v : Value} (h : w.cell? a = some v) : a.block < w.heap.size := by
  rcases Nat.lt_or_ge a.block w.heap.size with c | c
  · exact c
  · have := Array.getElem?_eq_none c
    simp [World.cell?, this] at h

theorem KeptL.grown {S : List Nat} {a w w' : World} {row : Option Nat} (h : KeptL S a w) (hg : w.grownBy w' row) (hr : ∀ k, row = some k → a.heap.size ≤ k) : KeptL S a w' :=
  ⟨hg.os.trans h.os, hg.tape.trans h.tape, hg.output.trans h.output, Nat.le_trans h.size hg.size, fun i hi hn => (hg.block i (Nat.lt_of_lt_of_le hi h.size) (fun e => by have := hr i e.symm; omega)).trans (h.block i hi hn)⟩

theorem Tl.of_own {w : World} {base n : Nat} {e : TypeId} {v : Value} {xs : List Value} (h : w.ownsRow base e 1 v n xs) : Tl w e v xs := by
  have hl : xs.length = n := by simpa using h.1
  rcases h.2 with ⟨rfl, rfl⟩ | ⟨g, cap, cur, rfl, _, hh, hcap, _, _, hcells⟩
  · exact ⟨none, 0, by rw [hl], ⟨fun _ => rfl, by omega⟩, fun hp => by omega⟩
  · refine ⟨some ⟨g, 0, none⟩, cap, by rw [hl], ⟨(fun h => by cases h), by omega⟩, fun _ => ⟨g, 0, cur, (0, 0), rfl, hh, fun j u hu => ?_⟩⟩
    have hj : j < n := by have := (List.getElem?_eq_some_iff.1 hu).1; omega
    have hc := h.cellAt j (by omega)
    rw [hu] at hc
    rw [Nat.zero_add]
    simpa [World.cell?, hh] using hc

theorem own_slice {w : World} {base n : Nat} {e : TypeId} {size : Nat} {v : Value} {xs : List Value} (h : w.ownsRow base e size v n xs) : ∃ A c, v = .slice A n c := by
  rcases h.2 with ⟨rfl, rfl⟩ | ⟨g, cap, cur, rfl, _⟩
  · exact ⟨_, _, rfl⟩
  · exact ⟨_, _, rfl⟩

theorem KeptL.of_grown {w w' : World} {row : Option Nat} (h : w.grownBy w' row) : KeptL row.toList w w' :=
  ⟨h.os, h.tape, h.output, h.size, fun k hk hn => h.block k hk (by rintro rfl; exact hn (by simp))⟩

theorem Tl.grown {w w' : World} {t t' : TypeId} {v v' : Value} {xs ys : List Value} {base size n : Nat} (h : Tl w t v xs) (ho : w.ownsRow base t' size v' n ys) (hg : w.grownBy w' v'.ownBlock) (ht : t ≠ t') : Tl w' t v xs := by
  obtain ⟨A, c, hv, h0, hx⟩ := h
  refine ⟨A, c, hv, h0, fun hp => ?_⟩
  obtain ⟨b, o, cur, fr, hA, hh, hc⟩ := hx hp
  refine ⟨b, o, cur, fr, hA, (hg.block b (heap_lt hh) ?_).trans hh, hc⟩
  intro e
  rcases ho.2 with ⟨rfl, _⟩ | ⟨g', cap, cur', rfl, _, hh', _⟩
  · simp [Value.ownBlock] at e
  · have : b = g' := by simpa [Value.ownBlock] using e
    subst this
    rw [hh] at hh'
    injection hh' with hh'
    injection hh' with _ hh'
    exact ht hh'

theorem bitQ_drop (q : List Nat) (m k : Nat) : bitQ (q.drop m) k = bitQ q (8 * m + k) := by
  unfold bitQ
  have h1 : (8 * m + k) / 8 = m + k / 8 := by omega
  have h2 : (8 * m + k) % 8 = k % 8 := by omega
  rw [h1, h2]
  simp [List.getD]

theorem upto_drop (q : List Nat) (m : Nat) (h : m ≤ q.length) : (upto q q.length).drop (8 * m) = upto (q.drop m) (q.drop m).length := by
  apply List.ext_getElem
  · rw [List.length_drop, upto_length, upto_length, List.length_drop]; omega
  · intro i h1 h2
    simp only [upto, List.getElem_drop, List.getElem_map, List.getElem_range]
    rw [bitQ_drop]

theorem tget_body (q : List Nat) (hq : ∀ x ∈ q, x < 256) (m : Nat) (h : m < q.length) : tget 8 (some ((upto q q.length).drop (8 * m))) = (q.getD m 0, some ((upto q q.length).drop (8 * (m + 1)))) := by
  have hl : ((upto q q.length).drop (8 * m)).length = 8 * q.length - 8 * m := by rw [List.length_drop, upto_length]
  rw [tget_long (by rw [hl]; omega), hor_rem q (8 * m) 8 (by omega), numTo_byte q hq, List.drop_drop]
  rfl

theorem behind (o : List Nat) (hq : ∀ x ∈ o, x < 256) (h : 2 ≤ o.length) : (tget 8 (tget 8 (body o)).2).2 = body (o.drop 2) := by
  unfold body
  have h0 := tget_body o hq 0 (by omega)
  simp only [Nat.mul_zero, List.drop_zero] at h0
  rw [h0, tget_body o hq 1 (by omega)]
  show some _ = some _
  rw [upto_drop o 2 h]

def scells (xs : List (Int × Int × Int)) : List Value := xs.flatMap fun s => [.int .i64 s.1, .int .i64 s.2.1, .int .i64 s.2.2]

def pcells (xs : List (Int × Int × Int × Int)) : List Value := xs.flatMap fun s => [.int .i64 s.1, .int .i64 s.2.1, .int .i64 s.2.2.1, .int .i64 s.2.2.2]

theorem scells_snoc (xs : List (Int × Int × Int)) (x : Int × Int × Int) : scells xs ++ [.int .i64 x.1, .int .i64 x.2.1, .int .i64 x.2.2] = scells (xs ++ [x]) := by simp [scells]

theorem scells_get (xs : List (Int × Int × Int)) : ∀ j (h : j < xs.length), (scells xs)[j * 3]? = some (.int .i64 xs[j].1) ∧ (scells xs)[j * 3 + 1]? = some (.int .i64 xs[j].2.1) ∧ (scells xs)[j * 3 + 2]? = some (.int .i64 xs[j].2.2) := by
  induction xs with
  | nil => intro j h; simp at h
  | cons a r ih =>
    intro j h
    have e : scells (a :: r) = .int .i64 a.1 :: .int .i64 a.2.1 :: .int .i64 a.2.2 :: scells r := by simp [scells]
    cases j with
    | zero => rw [e]; simp
    | succ j =>
      rw [e]
      obtain ⟨h1, h2, h3⟩ := ih j (by simpa using h)
      have e1 : (j + 1) * 3 = j * 3 + 3 := by omega
      rw [e1]
      simp only [List.getElem?_cons_succ, List.getElem_cons_succ]
      exact ⟨h1, h2, h3⟩

theorem pcells_get (xs : List (Int × Int × Int × Int)) : ∀ j (h : j < xs.length), (pcells xs)[j * 4]? = some (.int .i64 xs[j].1) ∧ (pcells xs)[j * 4 + 1]? = some (.int .i64 xs[j].2.1) ∧ (pcells xs)[j * 4 + 2]? = some (.int .i64 xs[j].2.2.1) ∧ (pcells xs)[j * 4 + 3]? = some (.int .i64 xs[j].2.2.2) := by
  induction xs with
  | nil => intro j h; simp at h
  | cons a r ih =>
    intro j h
    have e : pcells (a :: r) = .int .i64 a.1 :: .int .i64 a.2.1 :: .int .i64 a.2.2.1 :: .int .i64 a.2.2.2 :: pcells r := by simp [pcells]
    cases j with
    | zero => rw [e]; simp
    | succ j =>
      rw [e]
      obtain ⟨h1, h2, h3, h4⟩ := ih j (by simpa using h)
      have e1 : (j + 1) * 4 = j * 4 + 4 := by omega
      rw [e1]
      simp only [List.getElem?_cons_succ, List.getElem_cons_succ]
      exact ⟨h1, h2, h3, h4⟩

theorem own_cur {w : World} {base n g cap size : Nat} {e : TypeId} {xs : List Value} (h : w.ownsRow base e size (.slice (some ⟨g, 0, none⟩) n cap) n xs) {cur : Array Value} (hh : w.heap[g]? = some (.cells cur e (0, 0))) (j : Nat) (u : Value) (hu : xs[j]? = some u) : cur[j]? = some u := by
  have hl := h.1
  have hj : j < n * size := by have := (List.getElem?_eq_some_iff.1 hu).1; omega
  have hc := h.cellAt j hj
  rw [hu] at hc
  simpa [World.cell?, hh] using hc

theorem IsSecs.of_own {w : World} {base n : Nat} {v : Value} {xs : List (Int × Int × Int)} (h : w.ownsRow base 39 3 v n (scells xs)) (hn : xs.length = n) : IsSecs w v xs := by
  subst hn
  rcases h.2 with ⟨rfl, h0⟩ | ⟨g, cap, cur, hv, _, hh, _⟩
  · exact ⟨none, 0, by rw [h0], fun hp => by omega⟩
  · subst hv
    refine ⟨_, _, rfl, fun _ => ⟨g, cur, (0, 0), rfl, hh, fun j hj => ?_⟩⟩
    obtain ⟨a, b, c⟩ := scells_get xs j hj
    exact ⟨own_cur h hh _ _ a, own_cur h hh _ _ b, own_cur h hh _ _ c⟩

theorem IsPoints.of_own {w : World} {base n : Nat} {v : Value} {xs : List (Int × Int × Int × Int)} (h : w.ownsRow base 41 4 v n (pcells xs)) (hn : xs.length = n) : IsPoints w v xs := by
  subst hn
  rcases h.2 with ⟨rfl, h0⟩ | ⟨g, cap, cur, hv, _, hh, _⟩
  · exact ⟨none, 0, by rw [h0], fun hp => by omega⟩
  · subst hv
    refine ⟨_, _, rfl, fun _ => ⟨g, cur, (0, 0), rfl, hh, fun j hj => ?_⟩⟩
    obtain ⟨a, b, c, d⟩ := pcells_get xs j hj
    exact ⟨own_cur h hh _ _ a, own_cur h hh _ _ b, own_cur h hh _ _ c, own_cur h hh _ _ d⟩

theorem row_new (w : World) (t : TypeId) (xs : List Value) : ∀ (j : Nat) (u : Value), xs[j]? = some u → (w.alloc (.cells xs.toArray t)).cell? ((⟨w.heap.size, 0, none⟩ : Addr).add j) = some u := by
  intro j u hj
  rw [add_at, Nat.zero_add, (Row.new w t xs.toArray).cell j]
  simpa using hj

/-- The document's own variables: the result, nothing, the layout. -/
structure Tri (W : World) (n0 n1 n2 : Nat) (C : Array Value) : Prop where
  res : Row W n0 33 #[.slice none 0 0, .slice none 0 0, .slice none 0 0, .slice none 0 0, .slice none 0 0, .int .i64 0, .int .i64 0, .int .i64 0, .int .i64 0, .int .i64 0]
  non : Row W n1 33 #[.slice none 0 0, .slice none 0 0, .slice none 0 0, .slice none 0 0, .slice none 0 0, .int .i64 0, .int .i64 0, .int .i64 0, .int .i64 0, .int .i64 0]
  lay : Row W n2 33 C
  ne : n0 ≠ n1 ∧ n0 ≠ n2 ∧ n1 ≠ n2

theorem Tri.kept {W W' : World} {n0 n1 n2 : Nat} {C : Array Value} {S : List Nat} (h : Tri W n0 n1 n2 C) (hk : KeptL S W W') (h0 : n0 ∉ S) (h1 : n1 ∉ S) (h2 : n2 ∉ S) : Tri W' n0 n1 n2 C :=
  ⟨hk.row h.res h0, hk.row h.non h1, hk.row h.lay h2, h.ne⟩

theorem Tri.fresh {W W' : World} {n0 n1 n2 : Nat} {C : Array Value} (h : Tri W n0 n1 n2 C) (hb : Below W.heap.size W W') : Tri W' n0 n1 n2 C := h.kept (KeptL.of_below (S := []) hb) (by simp) (by simp) (by simp)

theorem Tri.set {W : World} {n0 n1 n2 : Nat} {C : Array Value} (h : Tri W n0 n1 n2 C) (i : Nat) (u : Value) : Tri (W.setCell ⟨n2, i, none⟩ u) n0 n1 n2 (C.setIfInBounds i u) :=
  ⟨h.res.far (p := ⟨n2, i, none⟩) h.ne.2.1 u, h.non.far (p := ⟨n2, i, none⟩) h.ne.2.2 u, h.lay.set i u, h.ne⟩

theorem Tri.grown {W W' : World} {n0 n1 n2 B : Nat} {C : Array Value} {row : Option Nat} (h : Tri W n0 n1 n2 C) (hg : W.grownBy W' row) (hr : ∀ k, row = some k → B ≤ k) (h0 : n0 < B ∧ n1 < B ∧ n2 < B) : Tri W' n0 n1 n2 C :=
  ⟨h.res.grown hg (fun e => by have := hr n0 e.symm; omega), h.non.grown hg (fun e => by have := hr n1 e.symm; omega), h.lay.grown hg (fun e => by have := hr n2 e.symm; omega), h.ne⟩

theorem below3 (w : World) (a b c : Obj) : Below w.heap.size w (((w.alloc a).alloc b).alloc c) :=
  (((Below.refl _ _).alloc (Nat.le_refl _) _).alloc (by simp) _).alloc (by simp [World.size_alloc]; omega) _

theorem back {α : Type} {p : St → α × St} (hs : Strict p) {s : St} (h : (p s).2 ≠ none) : s ≠ none := by rintro rfl; exact h hs

theorem FlN.nil : FlN [] [] := ⟨rfl, fun i h1 _ => absurd h1 (by simp)⟩

theorem nvals_snoc (ps : List (Nat × Nat)) (x y : Nat) : nvals ps ++ [.complex .f64 x y] = nvals (ps ++ [(x, y)]) := by simp [nvals]

theorem eight_flat {α : Type} (f : α → List Bool) (xs : List α) (h : ∀ x, (f x).length % 8 = 0) : (xs.flatMap f).length % 8 = 0 := by
  induction xs with
  | nil => rfl
  | cons a r ih => rw [List.flatMap_cons, List.length_append]; have := h a; omega

theorem eight_list {α : Type} (f : α → List Bool) (xs : List α) (h : ∀ x, (f x).length % 8 = 0) : (elist f xs).length % 8 = 0 := by
  unfold elist
  rw [List.length_append, nbit_length]
  have := eight_flat f xs h
  omega

theorem eight_body (L : Lay) : (ebody L).length % 8 = 0 := by
  have h1 := eight_list enode L.nodes (fun x => by simp [enode, nbit_length])
  have h2 := eight_list esec L.secs (fun x => by simp [esec, nbit_length])
  have h3 := eight_list epoint L.points (fun x => by simp [epoint, nbit_length])
  have hr : ∀ r : List Int, (erow r).length % 8 = 0 := fun r => eight_list eint r (fun x => by simp [eint, nbit_length])
  have h4 : (erows L.parts).length % 8 = 0 := eight_list erow L.parts hr
  have h5 : (erows L.routes).length % 8 = 0 := eight_list erow L.routes hr
  unfold ebody etimes
  simp only [List.length_append, nbit_length]
  omega

theorem eight_enc (L : Lay) : (enc L).length % 8 = 0 := by
  unfold enc
  simp only [List.length_append, nbit_length]
  have := eight_body L
  omega

theorem pack_len8 (l : List Bool) (h : l.length % 8 = 0) : (pack l).length = l.length / 8 := by rw [pack_length]; unfold nb; omega

theorem lows_id (L : Lay) (hs : ∀ s ∈ L.secs, (0 ≤ s.1 ∧ s.1 < 65536) ∧ (0 ≤ s.2.1 ∧ s.2.1 < 256) ∧ (0 ≤ s.2.2 ∧ s.2.2 < 256)) (hp : ∀ r ∈ L.parts, ∀ n ∈ r, 0 ≤ n ∧ n < 256) (hr : ∀ r ∈ L.routes, ∀ n ∈ r, 0 ≤ n ∧ n < 256)
    (hq : ∀ s ∈ L.points, (0 ≤ s.1 ∧ s.1 < 256) ∧ (0 ≤ s.2.1 ∧ s.2.1 < 256) ∧ (0 ≤ s.2.2.1 ∧ s.2.2.1 < 256) ∧ (0 ≤ s.2.2.2 ∧ s.2.2.2 < 256))
    (ht : (0 ≤ L.speed ∧ L.speed < 65536) ∧ (0 ≤ L.mute ∧ L.mute < 65536) ∧ (0 ≤ L.wait ∧ L.wait < 65536) ∧ (0 ≤ L.cancel ∧ L.cancel < 65536) ∧ (0 ≤ L.stay ∧ L.stay < 65536)) : lows L = L := by
  have l8 : ∀ n : Int, 0 ≤ n → n < 256 → low 8 n = n := fun n h0 h1 => low_id 8 n h0 h1
  have l16 : ∀ n : Int, 0 ≤ n → n < 65536 → low 16 n = n := fun n h0 h1 => low_id 16 n h0 h1
  have row : ∀ l : List (List Int), (∀ r ∈ l, ∀ n ∈ r, 0 ≤ n ∧ n < 256) → l.map (fun r => r.map (low 8)) = l := fun l h => by
    conv => rhs; rw [← List.map_id l]
    apply List.map_congr_left
    intro r hr'
    show r.map (low 8) = r
    conv => rhs; rw [← List.map_id r]
    apply List.map_congr_left
    intro n hn
    exact l8 n (h r hr' n hn).1 (h r hr' n hn).2
  unfold lows
  obtain ⟨n, s, p, q, r, a, b, c, d, e⟩ := L
  simp only at *
  rw [row p hp, row r hr, l16 a ht.1.1 ht.1.2, l16 b ht.2.1.1 ht.2.1.2, l16 c ht.2.2.1.1 ht.2.2.1.2, l16 d ht.2.2.2.1.1 ht.2.2.2.1.2, l16 e ht.2.2.2.2.1 ht.2.2.2.2.2]
  congr 1
  · conv => rhs; rw [← List.map_id s]
    apply List.map_congr_left
    intro x hx
    obtain ⟨h1, h2, h3⟩ := hs x hx
    show (low 16 x.1, low 8 x.2.1, low 8 x.2.2) = x
    rw [l16 _ h1.1 h1.2, l8 _ h2.1 h2.2, l8 _ h3.1 h3.2]
  · conv => rhs; rw [← List.map_id q]
    apply List.map_congr_left
    intro x hx
    obtain ⟨h1, h2, h3, h4⟩ := hq x hx
    show (low 8 x.1, low 8 x.2.1, low 8 x.2.2.1, low 8 x.2.2.2) = x
    rw [l8 _ h1.1 h1.2, l8 _ h2.1 h2.2, l8 _ h3.1 h3.2, l8 _ h4.1 h4.2]

/-- Is nothing of them another thing? -/
def Alike (a b : Lay) : Prop := a.nodes = b.nodes ∧ a.secs = b.secs ∧ a.parts = b.parts ∧ a.points = b.points ∧ a.routes = b.routes ∧ a.speed = b.speed ∧ a.mute = b.mute ∧ a.wait = b.wait ∧ a.cancel = b.cancel ∧ a.stay = b.stay

theorem alike_refl (a : Lay) : Alike a a := ⟨rfl, rfl, rfl, rfl, rfl, rfl, rfl, rfl, rfl, rfl⟩

def RetL (b : Bool) (w : World) (e : Ending) (w' : World) : Prop := e = .returned (.bool b) ∧ Below w.heap.size w w'

/-- Two layouts, each in a block. -/
structure Two (W : World) (n0 n1 : Nat) (C C' : Array Value) : Prop where
  a : Row W n0 33 C
  b : Row W n1 33 C'

theorem LayV.agg {w : World} {D : Nat} {v : Value} {L : Lay} (h : LayV w D v L) : ∃ A0 k0 c0 A1 k1 c1 A2 k2 c2 A3 k3 c3 A4 k4 c4, v = .agg #[.slice A0 k0 c0, .slice A1 k1 c1, .slice A2 k2 c2, .slice A3 k3 c3, .slice A4 k4 c4, .int .i64 L.speed, .int .i64 L.mute, .int .i64 L.wait, .int .i64 L.cancel, .int .i64 L.stay] := by
  obtain ⟨vN, vS, vP, vQ, vR, ps, hv, hd⟩ := h
  obtain ⟨⟨A0, c0, rfl⟩, ⟨A1, c1, rfl⟩, ⟨A2, c2, rfl⟩, ⟨A3, c3, rfl⟩, ⟨A4, c4, rfl⟩⟩ := hd.slices
  exact ⟨_, _, _, _, _, _, _, _, _, _, _, _, _, _, _, hv⟩

/-- A draft: its numbers, its routes. -/
structure Dr where
  form : Nat
  len : Nat
  speed : Nat
  mute : Nat
  wait : Nat
  cancel : Nat
  stay : Nat
  join : Nat
  routes : List (List Nat)

/-- Lists of bytes, in blocks below 'D'. -/
def BRows (w : World) (D : Nat) (v : Value) (rows : List (List Nat)) : Prop :=
  ∃ vs : List Value, Rd w D v vs ∧ vs.length = rows.length ∧ ∀ i (h1 : i < vs.length) (h2 : i < rows.length), Rd w D vs[i] (bvals rows[i])

theorem BRows.mono {w w' : World} {D D' : Nat} {v : Value} {xs : List (List Nat)} (h : BRows w D v xs) (hD : D ≤ D') (hc : ∀ p : Addr, p.block < D → w'.cell? p = w.cell? p) : BRows w' D' v xs := by
  obtain ⟨vs, h1, h2, h3⟩ := h
  exact ⟨vs, h1.mono hD hc, h2, fun i a b => (h3 i a b).mono hD hc⟩

/-- The draft's own value. -/
def drV (d : Dr) (vr : Value) : Value := .agg #[.int .u8 (d.form : Int), .int .u8 (d.len : Int), .int .u8 (d.speed : Int), .int .u16 (d.mute : Int), .int .u16 (d.wait : Int), .int .u8 (d.cancel : Int), .int .u8 (d.stay : Int), .int .u8 (d.join : Int), vr]

structure DrOk (d : Dr) : Prop where
  form : d.form < 256
  len : d.len < 256
  speed : d.speed < 256
  mute : d.mute < 65536
  wait : d.wait < 65536
  cancel : d.cancel < 256
  stay : d.stay < 256
  join : d.join < 256
  bytes : ∀ r ∈ d.routes, ∀ x ∈ r, x < 256

/-- Has a draft not too much? -/
def small (d : Dr) : Bool := decide (d.routes.length ≤ 20) && d.routes.all fun r => decide (r.length ≤ 10)

set_option maxHeartbeats 2000000 in
theorem small_any (w : World) (d : Dr) (vr : Value) (h : BRows w w.heap.size vr d.routes) (hl : d.routes.length ≤ 9223372036854775807) (hrl : ∀ r ∈ d.routes, r.length ≤ 9223372036854775807) : Calls Tryz.prog 10 #[drV d vr] w (RetL (small d) w) := by
  unfold drV
  obtain ⟨vs, hv, hvl, hve⟩ := h
  obtain ⟨A, c, rfl, h0, hx⟩ := hv
  have HVL := Lib.hid hvl
  rw [hvl] at hx ⊢
  obtain ⟨n, hn⟩ : ∃ n, n = d.routes.length := ⟨_, rfl⟩
  rw [← hn] at hx hl ⊢
  have HN := Lib.hid hn; have HX := Lib.hid hx; have HVE := Lib.hid hve; have HRL := Lib.hid hrl
  clear hn hx hve hvl h0 hrl
  obtain ⟨C, hC⟩ : ∃ C : Array Value, C = #[.int .u8 (d.form : Int), .int .u8 (d.len : Int), .int .u8 (d.speed : Int), .int .u16 (d.mute : Int), .int .u16 (d.wait : Int), .int .u8 (d.cancel : Int), .int .u8 (d.stay : Int), .int .u8 (d.join : Int), .slice A n c] := ⟨_, rfl⟩
  have HB := Lib.hid ((Below.refl w.heap.size w).alloc (Nat.le_refl _) (.cells #[.int .u8 (d.form : Int), .int .u8 (d.len : Int), .int .u8 (d.speed : Int), .int .u16 (d.mute : Int), .int .u16 (d.wait : Int), .int .u8 (d.cancel : Int), .int .u8 (d.stay : Int), .int .u8 (d.join : Int), .slice A n c] 25))
  have HR := Lib.hid (Row.new w 25 #[.int .u8 (d.form : Int), .int .u8 (d.len : Int), .int .u8 (d.speed : Int), .int .u16 (d.mute : Int), .int .u16 (d.wait : Int), .int .u8 (d.cancel : Int), .int .u8 (d.stay : Int), .int .u8 (d.join : Int), .slice A n c])
  clear hC C
  go_enter Tryz.func10, Tryz.ntmps10
  go_upto_region 1 with (fail)
  generalize w.alloc (.cells #[.int .u8 (d.form : Int), .int .u8 (d.len : Int), .int .u8 (d.speed : Int), .int .u16 (d.mute : Int), .int .u16 (d.wait : Int), .int .u8 (d.cancel : Int), .int .u8 (d.stay : Int), .int .u8 (d.join : Int), .slice A n c] 25) = W at *
  obtain ⟨n0, hn0⟩ : ∃ n, n = w.heap.size := ⟨_, rfl⟩
  rw [← hn0] at HR HB HX HVE ⊢
  have HN0 := Lib.hid hn0; clear hn0
  have f8 := HR.out.cell 8
  simp only [List.getElem?_toArray, List.getElem?_cons_zero, List.getElem?_cons_succ] at f8
  go_wp2_with fail
  go_loop [3] (fun k => ∃ i : Nat, i ≤ n ∧ k = .int .i64 i ∧ Hid (∀ j (h : j < d.routes.length), j < i → d.routes[j].length ≤ 10)) (fun k => n - (intOf k).toNat)
  case atStart => exact ⟨0, Nat.zero_le _, rfl, fun j _ hj => absurd hj (by omega)⟩
  case round =>
    obtain ⟨i, hi, rfl, HI⟩ := hrel
    by_cases hlt : i < n
    · have hiq : i < d.routes.length := by have := HN.out; omega
      have hiv : i < vs.length := by have := HVL.out; omega
      obtain ⟨b, o, rfl, hb, hc⟩ := HX.out (by omega)
      have hcell : W.cell? ⟨b, o + i, none⟩ = some vs[i] := (HB.out.cell (p := ⟨b, o + i, none⟩) hb).trans (hc i _ (List.getElem?_eq_getElem hiv))
      have he := HVE.out i hiv hiq
      have hrl := HRL.out d.routes[i] (List.getElem_mem _)
      have HD : Hid (¬ d.routes[i].length ≤ 10 → small d = false) := fun hbig => by
        unfold small
        rw [Bool.and_eq_false_iff]
        refine Or.inr (Bool.eq_false_iff.2 fun hall => hbig ?_)
        have := List.all_eq_true.1 hall d.routes[i] (List.getElem_mem _)
        simpa using this
      have HS : Hid (d.routes[i].length ≤ 10 → ∀ j (h : j < d.routes.length), j < i + 1 → d.routes[j].length ≤ 10) := fun hs j h hj => by
        rcases Nat.lt_or_ge j i with c | c
        · exact HI.out j h c
        · obtain rfl : j = i := by omega
          exact hs
      clear hc
      generalize vs[i] = z at *
      generalize d.routes[i] = r at *
      obtain ⟨B, cc, rfl, -, -⟩ := he
      simp only [bvals_length] at *
      by_cases hbig : r.length ≤ 10
      · have HS2 := Lib.hid (HS.out hbig)
        clear HD HS
        go_wp2
        go_round
        case rel => exact ⟨i + 1, by omega, by go_num, HS2⟩
        case measure => simp [intOf]; omega
      · have HF := Lib.hid (HD.out hbig)
        clear HD HS
        go_wp2
        go_ret
        exact ⟨ret_bool HF.out.symm, by rw [← HN0.out]; exact HB.out⟩
    · have HF : Hid (small d = decide (n ≤ 20)) := by
        show _ = _
        unfold small
        rw [HN.out]
        have : (d.routes.all fun r => decide (r.length ≤ 10)) = true := by
          refine List.all_eq_true.2 fun r hr => ?_
          obtain ⟨j, hj, rfl⟩ := List.getElem_of_mem hr
          rw [decide_eq_true]; exact HI.out j hj (by have := HN.out; omega)
        rw [this, Bool.and_true]
      have HF2 : Hid (decide ((n : Int) ≤ 20) = small d) := by
        show _ = _
        rw [HF.out]
        by_cases h20 : n ≤ 20
        · rw [decide_eq_true h20, decide_eq_true (by omega)]
        · rw [decide_eq_false h20, decide_eq_false (by omega)]
      go_wp2
      go_ret
      exact ⟨ret_bool HF2.out, by rw [← HN0.out]; exact HB.out⟩

def unit (d : Dr) : Nat := 10 * (1 + d.len % 20)

theorem unit_bounds (d : Dr) : 10 ≤ unit d ∧ unit d ≤ 200 := by unfold unit; omega

theorem fl_two : Fl 0 4611686018427387904 2 := by have := fl_ofInt 2 (by decide); rwa [show floatOfInt .f64 2 = 4611686018427387904 from by decide +kernel] at this

theorem fl_three : Fl 0 4613937818241073152 3 := by have := fl_ofInt 3 (by decide); rwa [show floatOfInt .f64 3 = 4613937818241073152 from by decide +kernel] at this

theorem fl_four : Fl 0 4616189618054758400 4 := by have := fl_ofInt 4 (by decide); rwa [show floatOfInt .f64 4 = 4616189618054758400 from by decide +kernel] at this

theorem fl_five : Fl 0 4617315517961601024 5 := by have := fl_ofInt 5 (by decide); rwa [show floatOfInt .f64 5 = 4617315517961601024 from by decide +kernel] at this

theorem fl_six : Fl 0 4618441417868443648 6 := by have := fl_ofInt 6 (by decide); rwa [show floatOfInt .f64 6 = 4618441417868443648 from by decide +kernel] at this

/-- A whole number times one along the same line. -/
theorem cmul_real {k x : Nat} {K U : Int} (hk : Fl 0 k K) (hx : Fl 0 x U) (h0 : 0 ≤ K) (h1 : K ≤ 10) (h2 : 0 ≤ U) (h3 : U ≤ 1000) :
    ∃ re im, cMulBits k 0 x 0 = some (re, im) ∧ Fl 0 re (K * U) ∧ Fl 0 im 0 := by
  have hb : (K * U).natAbs < 2 ^ 53 := by
    rw [Int.natAbs_mul]
    have : K.natAbs * U.natAbs ≤ 10 * 1000 := Nat.mul_le_mul (by omega) (by omega)
    omega
  obtain ⟨ac, e1, f1⟩ := fl_mul hk hx hb
  obtain ⟨bd, e2, f2⟩ := fl_mul fl_zero fl_zero (by decide)
  obtain ⟨re, e3, f3⟩ := fl_sub (by omega) f1 f2 (by simpa using hb)
  obtain ⟨ad, e4, f4⟩ := fl_mul hk fl_zero (by simp)
  obtain ⟨bc, e5, f5⟩ := fl_mul fl_zero hx (by simp)
  obtain ⟨im, e6, f6⟩ := fl_add (by omega) f4 f5 (by simp)
  refine ⟨re, im, ?_, by simpa using f3, by simpa using f6⟩
  simp [cMulBits, e1, e2, e3, e4, e5, e6]

theorem cadd_any {a b c d : Nat} {A B C D : Int} (ha : Fl 0 a A) (hb : Fl 0 b B) (hc : Fl 0 c C) (hd : Fl 0 d D) (h1 : (A + C).natAbs < 2 ^ 53) (h2 : (B + D).natAbs < 2 ^ 53) :
    ∃ re im, cSumBits .add .f64 a b c d = some (re, im) ∧ Fl 0 re (A + C) ∧ Fl 0 im (B + D) := by
  obtain ⟨re, e1, f1⟩ := fl_add (by omega) ha hc h1
  obtain ⟨im, e2, f2⟩ := fl_add (by omega) hb hd h2
  exact ⟨re, im, by simp [cSumBits, e1, e2], f1, f2⟩

theorem csub_any {a b c d : Nat} {A B C D : Int} (ha : Fl 0 a A) (hb : Fl 0 b B) (hc : Fl 0 c C) (hd : Fl 0 d D) (h1 : (A - C).natAbs < 2 ^ 53) (h2 : (B - D).natAbs < 2 ^ 53) :
    ∃ re im, cSumBits .sub .f64 a b c d = some (re, im) ∧ Fl 0 re (A - C) ∧ Fl 0 im (B - D) := by
  obtain ⟨re, e1, f1⟩ := fl_sub (by omega) ha hc h1
  obtain ⟨im, e2, f2⟩ := fl_sub (by omega) hb hd h2
  exact ⟨re, im, by simp [cSumBits, e1, e2], f1, f2⟩

theorem half_words : ∀ m : Fin 20, cQuoBits 0 (floatOfInt .f64 ((10 * (1 + m.val) : Nat) : Int)) 4611686018427387904 0 = some (0, floatOfInt .f64 ((5 * (1 + m.val) : Nat) : Int)) := by decide +kernel

/-- Half of the way to the north. -/
theorem chalf (d : Dr) : ∃ im, cQuoBits 0 (floatOfInt .f64 (unit d : Int)) 4611686018427387904 0 = some (0, im) ∧ Fl 0 im ((5 * (1 + d.len % 20) : Nat) : Int) := by
  have h := half_words ⟨d.len % 20, Nat.mod_lt _ (by omega)⟩
  exact ⟨_, h, fl_ofInt _ (by omega)⟩

/-- How many sections a draft has. -/
def rowLen (d : Dr) : Nat := 3 + d.form / 4 % 6

def makeNodes (d : Dr) : List (Int × Int) :=
  let U : Int := (unit d : Int)
  let H : Int := ((5 * (1 + d.len % 20) : Nat) : Int)
  match d.form % 4 with
  | 0 => (List.range (rowLen d + 1)).map fun (i : Nat) => (((unit d * i : Nat) : Int), 0)
  | 1 => [(0, 0), (U, 0), (2 * U, U), (2 * U, -U)]
  | 2 => [(0, 0), (U, 0), (2 * U, 0), (3 * U, H), (3 * U, -H), (4 * U, 0), (5 * U, 0), (6 * U, 0)]
  | _ => [(0, 0), (U, 0), (2 * U, 0), (3 * U, U), (3 * U, -U), (4 * U, U), (4 * U, -U)]

def makeEnds (d : Dr) : List (Int × Int) :=
  match d.form % 4 with
  | 0 => (List.range (rowLen d)).map fun (i : Nat) => ((i : Int), (i : Int) + 1)
  | 1 => [(0, 1), (1, 2), (3, 1)]
  | 2 => [(0, 1), (1, 2), (2, 3), (2, 4), (5, 3), (4, 5), (5, 6), (6, 7)]
  | _ => [(0, 1), (2, 1), (2, 3), (2, 4), (3, 5), (4, 6)]

def makePoints (d : Dr) : List (Int × Int × Int × Int) :=
  match d.form % 4 with
  | 0 => []
  | 1 => [(1, 0, 1, 2)]
  | 2 => [(2, 1, 2, 3), (5, 6, 4, 5)]
  | _ => [(2, 1, 3, 2)]

/-- The first 'i' sections. -/
def makeSecs (d : Dr) (es : List (Int × Int)) : Nat → List (Int × Int × Int)
  | 0 => []
  | i + 1 => makeSecs d es i ++ [(2 * (unit d : Int) + ((i % 3 : Nat) : Int), (es.getD i (0, 0)).1, (es.getD i (0, 0)).2)]

/-- Is section 'i' put to the part of the one before? -/
def joins (d : Dr) (i : Nat) : Bool := decide (0 < i) && (d.join.testBit (i % 8))

def putLast (l : List (List Int)) (x : Int) : List (List Int) := l.dropLast ++ [(l.getLast?.getD []) ++ [x]]

/-- The parts of the first 'i' sections. -/
def makeParts (d : Dr) : Nat → List (List Int)
  | 0 => []
  | i + 1 => if joins d i then putLast (makeParts d i) (i : Int) else makeParts d i ++ [[(i : Int)]]

def makeL (d : Dr) : Lay :=
  ⟨makeNodes d, makeSecs d (makeEnds d) (makeEnds d).length, makeParts d (makeEnds d).length, makePoints d, [],
    1 + ((d.speed % (2 * unit d) : Nat) : Int), 1 + ((d.mute % 1000 : Nat) : Int), 1 + ((d.wait % 1000 : Nat) : Int), 1 + (d.cancel : Int), ((d.stay % 4 : Nat) : Int)⟩

def roughL (d : Dr) : Lay := { makeL d with routes := d.routes.map fun (r : List Nat) => r.map fun (x : Nat) => (x : Int) }

theorem makeEnds_len (d : Dr) : 3 ≤ (makeEnds d).length ∧ (makeEnds d).length ≤ 8 := by
  unfold makeEnds
  split <;> simp
  unfold rowLen; omega

theorem makeEnds_in (d : Dr) : ∀ e ∈ makeEnds d, (0 ≤ e.1 ∧ e.1 ≤ 8) ∧ (0 ≤ e.2 ∧ e.2 ≤ 8) := by
  intro e he
  unfold makeEnds at he
  split at he
  · simp only [List.mem_map, List.mem_range] at he
    obtain ⟨i, hi, rfl⟩ := he
    unfold rowLen at hi
    simp only; omega
  · simp only [List.mem_cons, List.not_mem_nil, or_false] at he
    rcases he with rfl | rfl | rfl <;> decide
  · simp only [List.mem_cons, List.not_mem_nil, or_false] at he
    rcases he with rfl | rfl | rfl | rfl | rfl | rfl | rfl | rfl <;> decide
  · simp only [List.mem_cons, List.not_mem_nil, or_false] at he
    rcases he with rfl | rfl | rfl | rfl | rfl | rfl <;> decide

section

variable {P : Program} {ops : Array Oper} {Q : Exit → Act → World → Prop} {md : Region.Mode} {S : World → Prop} {t : Nat}

/-- Any order from here on; S holds behind every operation but number t. -/
def AnyBut (P : Program) (md : Region.Mode) (ops : Array Oper) (Q : Exit → Act → World → Prop) (S : World → Prop) (t : Nat) : Nat → Array Bool → Act → World → Prop
  | 0, L, a, w => Region.ready md ops L = [] ∧ Q .normal a w
  | n + 1, L, a, w => (Region.ready md ops L = [] → Q .normal a w) ∧
      ∀ j ∈ Region.ready md ops L, wpOp P ops Q j (fun a' w' => (j ≠ t → S w') ∧ AnyBut P md ops Q S t n (L.setIfInBounds j true) a' w') a w

theorem AnyBut.any : ∀ (n : Nat) (L : Array Bool) (a : Act) (w : World), AnyBut P md ops Q S t n L a w → wpAny P md ops Q n L a w
  | 0, _, _, _, h => h
  | n + 1, _, _, _, h => ⟨h.1, fun j hj => wpOp_mono (fun _ _ h' => AnyBut.any n _ _ _ h'.2) (h.2 j hj)⟩

/-- What is ready beside an unlisted i does not wait for i. -/
theorem ready_nowait {i j : Nat} {L : Array Bool} {oj : Oper} (hi : i ∈ Region.ready md ops L) (hj : j ∈ Region.ready md ops L) (ho : ops[j]? = some oj) :
    ∀ e ∈ oj.after, Region.binds md e = true → e.on ≠ i := by
  intro e he hb heq
  obtain ⟨_, o', ho', hall⟩ := mem_ready.1 hj
  obtain rfl : oj = o' := by rw [ho] at ho'; exact Option.some.inj ho'
  have h1 := hall e he hb
  have h0 := (mem_ready.1 hi).1
  rw [heq] at h1
  by_cases hlt : i < L.size
  · simp [hlt] at h0 h1; rw [h0] at h1; cases h1
  · simp [Array.getElem?_eq_none (Nat.le_of_not_lt hlt)] at h1

theorem AnyBut.first {i : Nat} {oi : Oper} {v : Value} (hi : ops[i]? = some oi) (hs : Region.noSelect ops = true)
    (hQ : ∀ c a w, Q (.panic c) (a.put oi.dst v) w → Q (.panic c) a w)
    (ht : ∀ o, ops[t]? = some o → ∃ e ∈ o.after, Region.binds md e = true ∧ e.on = i) (hit : i ≠ t) :
    ∀ (n : Nat) (L : Array Bool) (a : Act) (w : World),
      (∀ j oj, ops[j]? = some oj → j ≠ i → L.getD j true = false → (∀ e ∈ oj.after, Region.binds md e = true → e.on ≠ i) → oi.apart ops oj = true) →
      i ∈ Region.ready md ops L → YieldsIf P ops S oi v a → S w → AnyBut P md ops Q S t n (L.setIfInBounds i true) (a.put oi.dst v) w → AnyBut P md ops Q S t (n + 1) L a w := by
  have hsel := Region.noSelect_spec hs
  intro n
  induction n with
  | zero =>
    intro L a w hfree hr hy hS H
    refine ⟨fun h => (by rw [h] at hr; cases hr), fun j hj => ?_⟩
    by_cases e : j = i
    · subst e; exact hy.wpOp hi hS ⟨fun _ => hS, H⟩
    · have h0 := ready_mono hj e
      rw [H.1] at h0
      cases h0
  | succ n ih =>
    intro L a w hfree hr hy hS H
    refine ⟨fun h => (by rw [h] at hr; cases hr), fun j hj => ?_⟩
    by_cases e : j = i
    · subst e; exact hy.wpOp hi hS ⟨fun _ => hS, H⟩
    · obtain ⟨hun, oj, hoj, -⟩ := mem_ready.1 hj
      have hno := ready_nowait hr hj hoj
      have hjt : j ≠ t := by
        intro h
        subst h
        obtain ⟨d, hd, hb, hd2⟩ := ht oj hoj
        exact hno d hd hb hd2
      have h2 := wpOp_putIf hoj (hfree j oj hoj e hun hno) (fun cs b => hsel i oi cs b hi) (fun cs b => hsel j oj cs b hoj) hQ hy (H.2 j (ready_mono hj e))
      refine wpOp_mono (fun a' w' h3 => ⟨fun _ => h3.2.1 hjt, ih (L.setIfInBounds j true) a' w' (fun k ok hk hki hu hn => hfree k ok hk hki ?_ hn) (ready_mono hr (Ne.symm e)) h3.1 (h3.2.1 hjt) ?_⟩) h2
      · by_cases hjk : j = k
        · subst hjk; exact hun
        · rw [getD_set_ne true hjk] at hu; exact hu
      · rw [Array.setIfInBounds_comm _ _ e]
        exact h3.2.2

/-- Number i is taken first. -/
theorem AnyBut.take (i : Nat) {oi : Oper} {v : Value} {n : Nat} {L : Array Bool} {a : Act} {w : World} (hi : ops[i]? = some oi) (hs : Region.noSelect ops = true)
    (hf : Region.free md ops L i = true) (hr : (Region.ready md ops L).contains i = true)
    (ht : ((ops[t]?).all fun o => o.after.any fun e => Region.binds md e && e.on == i) = true) (hit : i ≠ t)
    (hQ : ∀ c a w, Q (.panic c) (a.put oi.dst v) w → Q (.panic c) a w) (hy : YieldsIf P ops S oi v a) (hS : S w)
    (h : AnyBut P md ops Q S t n (L.setIfInBounds i true) (a.put oi.dst v) w) : AnyBut P md ops Q S t (n + 1) L a w := by
  refine AnyBut.first hi hs hQ (fun o ho => ?_) hit n L a w (Region.free_spec hi hf) (by simpa using hr) hy hS h
  rw [ho] at ht
  have h2 : ∃ k, ∃ h : k < o.after.size, Region.binds md o.after[k] = true ∧ o.after[k].on = i := by simpa using ht
  obtain ⟨k, hk, hb⟩ := h2
  exact ⟨_, Array.getElem_mem hk, hb.1, hb.2⟩

/-- Number i alone may come up. -/
theorem AnyBut.one (i : Nat) {oi : Oper} {n : Nat} {L : Array Bool} {a : Act} {w : World} (hi : ops[i]? = some oi) (hr : Region.ready md ops L = [i]) (hw : Region.wanted oi (yielded ops a.tmps) = true)
    (h : oi.wp P a w (fun a' w' => (i ≠ t → S w') ∧ AnyBut P md ops Q S t n (L.setIfInBounds i true) a' w') Q) : AnyBut P md ops Q S t (n + 1) L a w :=
  ⟨fun h0 => absurd (hr.symm.trans h0) (by simp), fun j hj => (by
    rw [hr] at hj
    have e : j = i := by simpa using hj
    rw [e]
    unfold wpOp
    simp only [hi, hw, if_true]
    exact .inl h)⟩

theorem AnyBut.done {L : Array Bool} {a : Act} {w : World} (hr : Region.ready md ops L = []) (h : Q .normal a w) : AnyBut P md ops Q S t 0 L a w := ⟨hr, h⟩

theorem yields_of {o : Oper} {v : Value} {a : Act} (h1 : Region.wanted o (yielded ops a.tmps) = true) (h : ∀ w, S w → (execOp a.eval o).run P w = .ok (.value v) w) : YieldsIf P ops S o v a := .inl ⟨h1, h⟩

theorem AnyBut.region {id : Nat} {a : Act} {w : World} (S : World → Prop) (t : Nat) (hm : P.follows .mixedOrders = true)
    (h : AnyBut P .any ops Q S t ops.size (Array.replicate ops.size false) a { w with drawn := w.drawn + 1 }) : (Code.region id ops true).wp P Q a w :=
  wp_region_any hm (AnyBut.any _ _ _ _ h)

end

/-- The rows 'rows', each in a block of its own. -/
structure ORows (w : World) (B : Nat) (v : Value) (vs : List Value) (rows : List (List Int)) : Prop where
  own : w.ownsRow B 42 1 v vs.length vs
  len : vs.length = rows.length
  row : ∀ i (h1 : i < vs.length) (h2 : i < rows.length), w.ownsRow B 3 1 vs[i] rows[i].length (ivals rows[i])
  apart : ∀ i j (h1 : i < vs.length) (h2 : j < vs.length), i ≠ j → ∀ k, vs[i].ownBlock = some k → vs[j].ownBlock ≠ some k

def OwnRows (w : World) (B : Nat) (v : Value) (rows : List (List Int)) : Prop := ∃ vs, ORows w B v vs rows

theorem OwnRows.nil (w : World) (B : Nat) : OwnRows w B (.slice none 0 0) [] :=
  ⟨[], World.ownsRow_nil _ _ _ _, rfl, fun i h1 _ => absurd h1 (by simp), fun i j h1 _ => absurd h1 (by simp)⟩

theorem OwnRows.is {w : World} {B : Nat} {v : Value} {rows : List (List Int)} (h : OwnRows w B v rows) : IsRows w v rows := by
  obtain ⟨vs, h⟩ := h
  exact ⟨vs, Tl.of_own h.own, h.len, fun i h1 h2 => Tl.of_own (h.row i h1 h2)⟩

/-- Two owned rows of unlike types are two blocks. -/
theorem own_apart {w : World} {B B' : Nat} {t t' : TypeId} {s s' n n' : Nat} {v v' : Value} {xs xs' : List Value} (h : w.ownsRow B t s v n xs) (h' : w.ownsRow B' t' s' v' n' xs') (ht : t ≠ t') : v.ownBlock = none ∨ v.ownBlock ≠ v'.ownBlock := by
  rcases h.2 with ⟨rfl, _⟩ | ⟨g, cap, cur, rfl, _, hh, _⟩
  · exact Or.inl rfl
  · right
    intro e
    rcases h'.2 with ⟨rfl, _⟩ | ⟨g', cap', cur', rfl, _, hh', _⟩
    · cases e
    · have e2 : g = g' := by simpa [Value.ownBlock] using e
      subst e2
      rw [hh] at hh'
      injection hh' with hh'
      injection hh' with _ hh' _
      exact ht hh'

theorem ORows.grown {w w' : World} {B : Nat} {v : Value} {vs : List Value} {rows : List (List Int)} {r : Option Nat} (h : ORows w B v vs rows) (hg : w.grownBy w' r) (hr : ∀ k, r = some k → k < B) : ORows w' B v vs rows := by
  have key : ∀ (t : TypeId) (n : Nat) (u : Value) (xs : List Value), w.ownsRow B t 1 u n xs → w'.ownsRow B t 1 u n xs := fun t n u xs ho => by
    refine ho.kept hg ?_
    cases e : u.ownBlock with
    | none => exact Or.inl rfl
    | some k => exact Or.inr fun e2 => by have h1 := (ho.lt k e).1; have h2 := hr k e2.symm; omega
  exact ⟨key _ _ _ _ h.own, h.len, fun i h1 h2 => key _ _ _ _ (h.row i h1 h2), h.apart⟩

theorem ORows.alloc {w : World} {B : Nat} {v : Value} {vs : List Value} {rows : List (List Int)} (h : ORows w B v vs rows) (o : Obj) : ORows (w.alloc o) B v vs rows :=
  ⟨h.own.alloc o, h.len, fun i h1 h2 => (h.row i h1 h2).alloc o, h.apart⟩

theorem ORows.drew {w : World} {B : Nat} {v : Value} {vs : List Value} {rows : List (List Int)} (h : ORows w B v vs rows) : ORows w.drew B v vs rows :=
  ⟨h.own, h.len, h.row, h.apart⟩

theorem ORows.set {w : World} {B : Nat} {v : Value} {vs : List Value} {rows : List (List Int)} (h : ORows w B v vs rows) {a : Addr} (ha : a.block < B) (u : Value) : ORows (w.setCell a u) B v vs rows := by
  have key : ∀ (t : TypeId) (n : Nat) (z : Value) (xs : List Value), w.ownsRow B t 1 z n xs → (w.setCell a u).ownsRow B t 1 z n xs := fun t n z xs ho =>
    own_far ho (fun e => by have := (ho.lt _ e).1; omega) u
  exact ⟨key _ _ _ _ h.own, h.len, fun i h1 h2 => key _ _ _ _ (h.row i h1 h2), h.apart⟩

theorem ORows.one {w : World} {B : Nat} {v : Value} {vs : List Value} {rows : List (List Int)} (h : ORows w B v vs rows) : ∀ u ∈ vs, u.oneCell' = true := by
  intro u hu
  obtain ⟨i, hi, rfl⟩ := List.getElem_of_mem hu
  obtain ⟨A, c, e⟩ := own_slice (h.row i hi (by rw [← h.len]; exact hi))
  rw [e]; rfl

/-- One row more, behind the others. -/
theorem ORows.push {w w' : World} {B : Nat} {v v' : Value} {vs : List Value} {rows : List (List Int)} {u : Value} {xs : List Int} (h : ORows w B v vs rows)
    (hu : w.ownsRow B 3 1 u xs.length (ivals xs)) (hnew : ∀ g, u.ownBlock = some g → ∀ i (h1 : i < vs.length), vs[i].ownBlock ≠ some g)
    (hv : w'.ownsRow B 42 1 v' (vs.length + 1) (vs ++ [u])) (hw : w.grownBy w' v.ownBlock) : ORows w' B v' (vs ++ [u]) (rows ++ [xs]) := by
  refine ⟨by simpa using hv, by simp [h.len], ?_, ?_⟩
  · intro i h1 h2
    rcases Nat.lt_or_ge i vs.length with c | c
    · have c2 : i < rows.length := by rw [← h.len]; exact c
      rw [List.getElem_append_left c, List.getElem_append_left c2]
      exact (h.row i c c2).kept hw (own_apart (h.row i c c2) h.own (by decide))
    · have e : i = vs.length := by simp at h1; omega
      subst e
      have e2 : (rows ++ [xs])[vs.length]'h2 = xs := by simp [h.len]
      simp only [List.getElem_concat_length, e2]
      exact hu.kept hw (own_apart hu h.own (by decide))
  · intro i j h1 h2 hij k hk
    rcases Nat.lt_or_ge i vs.length with c | c <;> rcases Nat.lt_or_ge j vs.length with c' | c'
    · rw [List.getElem_append_left c] at hk
      rw [List.getElem_append_left c']
      exact h.apart i j c c' hij k hk
    · rw [List.getElem_append_left c] at hk
      have e : j = vs.length := by simp at h2; omega
      subst e
      simp only [List.getElem_concat_length]
      intro hk2
      exact hnew k hk2 i c hk
    · have e : i = vs.length := by simp at h1; omega
      subst e
      simp only [List.getElem_concat_length] at hk
      rw [List.getElem_append_left c']
      exact hnew k hk j c'
    · simp at h1 h2; omega

theorem KeptL.grownN {w w' : World} (h : KeptL [] w w') : w.grownBy w' none := ⟨h.os, h.tape, h.output, h.size, fun k hk _ => h.block k hk (by simp)⟩

theorem set_last {α : Type} (l : List α) (x : α) (n : Nat) (h : l.length = n + 1) : l.set n x = l.dropLast ++ [x] := by
  rcases List.eq_nil_or_concat l with rfl | ⟨l', a, rfl⟩
  · simp at h
  · have : l'.length = n := by simpa using h
    subst this
    simp

/-- One number more in the last row. -/
theorem ORows.last {w w' : World} {B g2 c2 n : Nat} {vs : List Value} {rows : List (List Int)} {u u' : Value} {xs : List Int} {x : Int} {g : Nat} (h : ORows w B (.slice (some ⟨g2, 0, none⟩) (n + 1) c2) vs rows)
    (hn : rows.length = n + 1) (hxs : rows[n]? = some xs) (hu : vs[n]? = some u)
    (hown : w'.ownsRow B 3 1 u' (xs.length + 1) (ivals (xs ++ [x]))) (hg : u'.ownBlock = some g) (hw : w.grownBy w' u.ownBlock) (hl : u.ownBlock = some g ∨ w.heap.size ≤ g) :
    ORows (w'.setCell ⟨g2, n, none⟩ u') B (.slice (some ⟨g2, 0, none⟩) (n + 1) c2) (vs.set n u') (putLast rows x) := by
  have hvl : vs.length = n + 1 := by rw [h.len, hn]
  have hun : vs[n]'(by omega) = u := by rw [List.getElem?_eq_getElem (by omega)] at hu; exact Option.some.inj hu
  have hxn : rows[n]'(by omega) = xs := by rw [List.getElem?_eq_getElem (by omega)] at hxs; exact Option.some.inj hxs
  have hru := h.row n (by omega) (by omega)
  rw [hun, hxn] at hru
  have hown2 : w'.ownsRow B 42 1 (.slice (some ⟨g2, 0, none⟩) (n + 1) c2) (n + 1) vs := by
    have := h.own
    rw [hvl] at this
    refine this.kept hw ?_
    rcases own_apart this hru (by decide) with e | e
    · exact Or.inl e
    · exact Or.inr e
  have hst := (hown2.stored n u').1
  have hset : ∀ (t : Nat) (z : Value) (zs : List Value), w'.ownsRow B 3 1 z t zs → (w'.setCell ⟨g2, n, none⟩ u').ownsRow B 3 1 z t zs := fun t z zs ho => by
    refine own_far ho (fun e => ?_) _
    rcases own_apart ho hown2 (by decide) with e1 | e1
    · rw [e] at e1; cases e1
    · exact e1 (by rw [e]; rfl)
  have hpl : (putLast rows x).length = n + 1 := by unfold putLast; simp [hn]
  have hge : putLast rows x = rows.set n (xs ++ [x]) := by
    rw [set_last rows _ n hn]
    unfold putLast
    have : rows.getLast? = some xs := by rw [List.getLast?_eq_getElem?, hn]; exact hxs
    rw [this]; rfl
  refine ⟨by simpa [hvl] using hst, by rw [hge]; simp [h.len], ?_, ?_⟩
  · intro i h1 h2
    have h1' : i < vs.length := by simpa using h1
    have h2' : i < rows.length := by rw [hpl] at h2; omega
    by_cases e : i = n
    · subst e
      have e1 : (putLast rows x)[i]'h2 = xs ++ [x] := by simp [hge]
      rw [List.getElem_set_self, e1]
      simp only [List.length_append, List.length_cons, List.length_nil, Nat.zero_add]
      exact hset _ _ _ hown
    · have e1 : (putLast rows x)[i]'h2 = rows[i] := by simp [hge, List.getElem_set_ne (Ne.symm e)]
      rw [List.getElem_set_ne (Ne.symm e), e1]
      refine hset _ _ _ ((h.row i h1' h2').kept hw ?_)
      cases eb : vs[i].ownBlock with
      | none => exact Or.inl rfl
      | some k => exact Or.inr fun e2 => h.apart i n h1' (by omega) e k eb (by rw [hun, ← e2])
  · have fresh : ∀ i (h1 : i < vs.length), i ≠ n → vs[i].ownBlock ≠ some g := fun i h1 hi e => by
      rcases hl with e2 | e2
      · exact h.apart i n h1 (by omega) hi g e (by rw [hun, e2])
      · have := ((h.row i h1 (by rw [← h.len]; exact h1)).lt g e).2
        omega
    intro i j h1 h2 hij k hk
    have h1' : i < vs.length := by simpa using h1
    have h2' : j < vs.length := by simpa using h2
    by_cases ei : i = n
    · subst ei
      rw [List.getElem_set_self, hg] at hk
      injection hk with hk
      subst hk
      rw [List.getElem_set_ne hij]
      exact fresh j h2' (Ne.symm hij)
    · rw [List.getElem_set_ne (Ne.symm ei)] at hk
      by_cases ej : j = n
      · subst ej
        rw [List.getElem_set_self, hg]
        intro e
        injection e with e
        subst e
        exact fresh i h1' ei hk
      · rw [List.getElem_set_ne (Ne.symm ej)]
        exact h.apart i j h1' h2' hij k hk

theorem makeSecs_len (d : Dr) (es : List (Int × Int)) : ∀ i, (makeSecs d es i).length = i
  | 0 => rfl
  | i + 1 => by rw [makeSecs, List.length_append, makeSecs_len d es i]; rfl

theorem makeParts_join {d : Dr} {i : Nat} (h : joins d i = true) : makeParts d (i + 1) = putLast (makeParts d i) (i : Int) := by rw [makeParts, if_pos h]

theorem makeParts_new {d : Dr} {i : Nat} (h : ¬ joins d i = true) : makeParts d (i + 1) = makeParts d i ++ [[(i : Int)]] := by rw [makeParts, if_neg h]

theorem makeParts_pos (d : Dr) (i : Nat) (h : 0 < i) : 0 < (makeParts d i).length := by
  cases i with
  | zero => omega
  | succ i =>
    unfold makeParts
    split
    · unfold putLast; simp
    · simp

theorem makeParts_le (d : Dr) : ∀ i, (makeParts d i).length ≤ i ∧ ∀ r ∈ makeParts d i, r.length ≤ i ∧ ∀ x ∈ r, 0 ≤ x ∧ x < i := by
  intro i
  induction i with
  | zero => exact ⟨Nat.le_refl _, fun r hr => absurd hr (by simp [makeParts])⟩
  | succ i ih =>
    obtain ⟨h1, h2⟩ := ih
    have up : ∀ r ∈ makeParts d i, r.length ≤ i + 1 ∧ ∀ x ∈ r, 0 ≤ x ∧ x < ((i + 1 : Nat) : Int) := fun r hr => by
      obtain ⟨a, b⟩ := h2 r hr
      exact ⟨by omega, fun x hx => by have := b x hx; omega⟩
    unfold makeParts
    split
    · rename_i hj
      have hp : 0 < i := by unfold joins at hj; simp at hj; exact hj.1
      have hpos := makeParts_pos d i hp
      unfold putLast
      refine ⟨by simp; omega, fun r hr => ?_⟩
      rcases List.mem_append.1 hr with c | c
      · exact up r (List.dropLast_subset _ c)
      · rw [List.mem_singleton] at c
        subst c
        cases e : (makeParts d i).getLast? with
        | none => simp at e; rw [e] at hpos; simp at hpos
        | some z =>
          have hz := List.mem_of_getLast? e
          obtain ⟨a, b⟩ := h2 z hz
          simp only [Option.getD_some, List.length_append, List.length_cons, List.length_nil]
          refine ⟨by omega, fun x hx => ?_⟩
          rcases List.mem_append.1 hx with c | c
          · have := b x c; omega
          · rw [List.mem_singleton] at c; omega
    · refine ⟨by simp; omega, fun r hr => ?_⟩
      rcases List.mem_append.1 hr with c | c
      · exact up r c
      · rw [List.mem_singleton] at c
        subst c
        refine ⟨by simp, fun x hx => ?_⟩
        rw [List.mem_singleton] at hx; omega

/-- A layout stored into a result. -/
theorem put10 {U : World} {n : Nat} {z0 z1 z2 z3 z4 z5 z6 z7 z8 z9 : Value} (h : Row U n 33 #[z0, z1, z2, z3, z4, z5, z6, z7, z8, z9]) (c0 c1 c2 c3 c4 c5 c6 c7 c8 c9 : Value) : Row ((((((((((U.setCell ⟨n, 0, none⟩ c0).setCell ⟨n, 1, none⟩ c1).setCell ⟨n, 2, none⟩ c2).setCell ⟨n, 3, none⟩ c3).setCell ⟨n, 4, none⟩ c4).setCell ⟨n, 5, none⟩ c5).setCell ⟨n, 6, none⟩ c6).setCell ⟨n, 7, none⟩ c7).setCell ⟨n, 8, none⟩ c8).setCell ⟨n, 9, none⟩ c9) n 33 #[c0, c1, c2, c3, c4, c5, c6, c7, c8, c9] ∧ Below n U ((((((((((U.setCell ⟨n, 0, none⟩ c0).setCell ⟨n, 1, none⟩ c1).setCell ⟨n, 2, none⟩ c2).setCell ⟨n, 3, none⟩ c3).setCell ⟨n, 4, none⟩ c4).setCell ⟨n, 5, none⟩ c5).setCell ⟨n, 6, none⟩ c6).setCell ⟨n, 7, none⟩ c7).setCell ⟨n, 8, none⟩ c8).setCell ⟨n, 9, none⟩ c9) ∧ KeptL [n] U ((((((((((U.setCell ⟨n, 0, none⟩ c0).setCell ⟨n, 1, none⟩ c1).setCell ⟨n, 2, none⟩ c2).setCell ⟨n, 3, none⟩ c3).setCell ⟨n, 4, none⟩ c4).setCell ⟨n, 5, none⟩ c5).setCell ⟨n, 6, none⟩ c6).setCell ⟨n, 7, none⟩ c7).setCell ⟨n, 8, none⟩ c8).setCell ⟨n, 9, none⟩ c9) := by
  have r0 : Row (U.setCell ⟨n, 0, none⟩ c0) n 33 #[c0, z1, z2, z3, z4, z5, z6, z7, z8, z9] := h.set 0 c0
  have r1 : Row ((U.setCell ⟨n, 0, none⟩ c0).setCell ⟨n, 1, none⟩ c1) n 33 #[c0, c1, z2, z3, z4, z5, z6, z7, z8, z9] := r0.set 1 c1
  have r2 : Row (((U.setCell ⟨n, 0, none⟩ c0).setCell ⟨n, 1, none⟩ c1).setCell ⟨n, 2, none⟩ c2) n 33 #[c0, c1, c2, z3, z4, z5, z6, z7, z8, z9] := r1.set 2 c2
  have r3 : Row ((((U.setCell ⟨n, 0, none⟩ c0).setCell ⟨n, 1, none⟩ c1).setCell ⟨n, 2, none⟩ c2).setCell ⟨n, 3, none⟩ c3) n 33 #[c0, c1, c2, c3, z4, z5, z6, z7, z8, z9] := r2.set 3 c3
  have r4 : Row (((((U.setCell ⟨n, 0, none⟩ c0).setCell ⟨n, 1, none⟩ c1).setCell ⟨n, 2, none⟩ c2).setCell ⟨n, 3, none⟩ c3).setCell ⟨n, 4, none⟩ c4) n 33 #[c0, c1, c2, c3, c4, z5, z6, z7, z8, z9] := r3.set 4 c4
  have r5 : Row ((((((U.setCell ⟨n, 0, none⟩ c0).setCell ⟨n, 1, none⟩ c1).setCell ⟨n, 2, none⟩ c2).setCell ⟨n, 3, none⟩ c3).setCell ⟨n, 4, none⟩ c4).setCell ⟨n, 5, none⟩ c5) n 33 #[c0, c1, c2, c3, c4, c5, z6, z7, z8, z9] := r4.set 5 c5
  have r6 : Row (((((((U.setCell ⟨n, 0, none⟩ c0).setCell ⟨n, 1, none⟩ c1).setCell ⟨n, 2, none⟩ c2).setCell ⟨n, 3, none⟩ c3).setCell ⟨n, 4, none⟩ c4).setCell ⟨n, 5, none⟩ c5).setCell ⟨n, 6, none⟩ c6) n 33 #[c0, c1, c2, c3, c4, c5, c6, z7, z8, z9] := r5.set 6 c6
  have r7 : Row ((((((((U.setCell ⟨n, 0, none⟩ c0).setCell ⟨n, 1, none⟩ c1).setCell ⟨n, 2, none⟩ c2).setCell ⟨n, 3, none⟩ c3).setCell ⟨n, 4, none⟩ c4).setCell ⟨n, 5, none⟩ c5).setCell ⟨n, 6, none⟩ c6).setCell ⟨n, 7, none⟩ c7) n 33 #[c0, c1, c2, c3, c4, c5, c6, c7, z8, z9] := r6.set 7 c7
  have r8 : Row (((((((((U.setCell ⟨n, 0, none⟩ c0).setCell ⟨n, 1, none⟩ c1).setCell ⟨n, 2, none⟩ c2).setCell ⟨n, 3, none⟩ c3).setCell ⟨n, 4, none⟩ c4).setCell ⟨n, 5, none⟩ c5).setCell ⟨n, 6, none⟩ c6).setCell ⟨n, 7, none⟩ c7).setCell ⟨n, 8, none⟩ c8) n 33 #[c0, c1, c2, c3, c4, c5, c6, c7, c8, z9] := r7.set 8 c8
  have r9 : Row ((((((((((U.setCell ⟨n, 0, none⟩ c0).setCell ⟨n, 1, none⟩ c1).setCell ⟨n, 2, none⟩ c2).setCell ⟨n, 3, none⟩ c3).setCell ⟨n, 4, none⟩ c4).setCell ⟨n, 5, none⟩ c5).setCell ⟨n, 6, none⟩ c6).setCell ⟨n, 7, none⟩ c7).setCell ⟨n, 8, none⟩ c8).setCell ⟨n, 9, none⟩ c9) n 33 #[c0, c1, c2, c3, c4, c5, c6, c7, c8, c9] := r8.set 9 c9
  have k0 : ∀ (W : World) (j : Nat) (u : Value), Below n U W → Below n U (W.setCell ⟨n, j, none⟩ u) := fun W j u hb => hb.setCell (p := ⟨n, j, none⟩) (Nat.le_refl _) u
  have k1 : Below n U ((((((((((U.setCell ⟨n, 0, none⟩ c0).setCell ⟨n, 1, none⟩ c1).setCell ⟨n, 2, none⟩ c2).setCell ⟨n, 3, none⟩ c3).setCell ⟨n, 4, none⟩ c4).setCell ⟨n, 5, none⟩ c5).setCell ⟨n, 6, none⟩ c6).setCell ⟨n, 7, none⟩ c7).setCell ⟨n, 8, none⟩ c8).setCell ⟨n, 9, none⟩ c9) := by
    repeat' apply k0
    exact Below.refl n U
  refine ⟨r9, k1, k1.os, k1.tape, k1.output, k1.size, fun k hk hn => ?_⟩
  have e : ∀ (W : World) (j : Nat) (u : Value), (World.setCell W ⟨n, j, none⟩ u).heap[k]? = W.heap[k]? := fun W j u => Below.heap_setCell W _ u k (by simpa using hn)
  simp only [e]

/-- What Make hands back. -/
def RetMake (d : Dr) (w : World) (e : Ending) (w' : World) : Prop :=
  ∃ vN vS vP vQ, e = .returned (.agg #[vN, vS, vP, vQ, .slice none 0 0, .int .i64 (makeL d).speed, .int .i64 (makeL d).mute, .int .i64 (makeL d).wait, .int .i64 (makeL d).cancel, .int .i64 (makeL d).stay]) ∧ Five w' vN vS vP vQ (.slice none 0 0) (makeL d) ∧ Below w.heap.size w w'

def RetLay (L : Lay) (w : World) (e : Ending) (w' : World) : Prop := ∃ v, e = .returned v ∧ LayV w' w'.heap.size v L ∧ Below w.heap.size w w'

/-- Make's own variables. -/
structure Mk (W : World) (n0 b1 b2 : Nat) (D C : Array Value) : Prop where
  dr : Row W n0 25 D
  res : Row W b1 33 #[.slice none 0 0, .slice none 0 0, .slice none 0 0, .slice none 0 0, .slice none 0 0, .int .i64 0, .int .i64 0, .int .i64 0, .int .i64 0, .int .i64 0]
  lay : Row W b2 33 C
  ne : b1 ≠ b2 ∧ n0 ≠ b1 ∧ n0 ≠ b2

theorem mk_of (w : World) (D : Array Value) : Mk (((w.alloc (.cells D 25)).alloc (.cells #[.slice none 0 0, .slice none 0 0, .slice none 0 0, .slice none 0 0, .slice none 0 0, .int .i64 0, .int .i64 0, .int .i64 0, .int .i64 0, .int .i64 0] 33)).alloc (.cells #[.slice none 0 0, .slice none 0 0, .slice none 0 0, .slice none 0 0, .slice none 0 0, .int .i64 0, .int .i64 0, .int .i64 0, .int .i64 0, .int .i64 0] 33)) w.heap.size (w.heap.size + 1) (w.heap.size + 1 + 1) D #[.slice none 0 0, .slice none 0 0, .slice none 0 0, .slice none 0 0, .slice none 0 0, .int .i64 0, .int .i64 0, .int .i64 0, .int .i64 0, .int .i64 0] := by
  have r1 := Row.new w 25 D
  have r2 := Row.new (w.alloc (.cells D 25)) 33 #[.slice none 0 0, .slice none 0 0, .slice none 0 0, .slice none 0 0, .slice none 0 0, .int .i64 0, .int .i64 0, .int .i64 0, .int .i64 0, .int .i64 0]
  have r3 := Row.new ((w.alloc (.cells D 25)).alloc (.cells #[.slice none 0 0, .slice none 0 0, .slice none 0 0, .slice none 0 0, .slice none 0 0, .int .i64 0, .int .i64 0, .int .i64 0, .int .i64 0, .int .i64 0] 33)) 33 #[.slice none 0 0, .slice none 0 0, .slice none 0 0, .slice none 0 0, .slice none 0 0, .int .i64 0, .int .i64 0, .int .i64 0, .int .i64 0, .int .i64 0]
  simp only [World.size_alloc] at r1 r2 r3
  exact ⟨(r1.alloc _).alloc _, r2.alloc _, r3, by omega⟩

def FillE (cur : Array Value) (xs : List (Int × Int)) : Prop := ∀ j (h : j < xs.length), cur[j * 2]? = some (.int .i64 xs[j].1) ∧ cur[j * 2 + 1]? = some (.int .i64 xs[j].2)

/-- Pairs of numbers. -/
def Ends (w : World) (v : Value) (xs : List (Int × Int)) : Prop := ∃ (A : Option Addr) (c : Nat), v = .slice A xs.length c ∧ (0 < xs.length → ∃ b cur fr, A = some ⟨b, 0, none⟩ ∧ w.heap[b]? = some (.cells cur 58 fr) ∧ FillE cur xs)

theorem Ends.kept {w w' : World} {v : Value} {zs : List (Int × Int)} {S : List Nat} (h : Ends w v zs) (hk : KeptL S w w') (ho : Other w 58 S) : Ends w' v zs := by
  obtain ⟨A, c, hv, hx⟩ := h
  refine ⟨A, c, hv, fun hp => ?_⟩
  obtain ⟨b, cur, fr, hA, hh, hc⟩ := hx hp
  exact ⟨b, cur, fr, hA, (hk.block b (heap_lt hh) (ho.ne hh)).trans hh, hc⟩

theorem Mk.fresh {W W' : World} {n0 b1 b2 : Nat} {D C : Array Value} (h : Mk W n0 b1 b2 D C) (hb : Below W.heap.size W W') : Mk W' n0 b1 b2 D C := ⟨Below.row hb h.dr h.dr.lt, Below.row hb h.res h.res.lt, Below.row hb h.lay h.lay.lt, h.ne⟩

theorem Mk.set {W : World} {n0 b1 b2 : Nat} {D C : Array Value} (h : Mk W n0 b1 b2 D C) (i : Nat) (u : Value) : Mk (W.setCell ⟨b2, i, none⟩ u) n0 b1 b2 D (C.setIfInBounds i u) :=
  ⟨h.dr.far (p := ⟨b2, i, none⟩) h.ne.2.2 u, h.res.far (p := ⟨b2, i, none⟩) h.ne.1 u, h.lay.set i u, h.ne⟩

theorem Mk.grown {W W' : World} {n0 b1 b2 B : Nat} {D C : Array Value} {row : Option Nat} (h : Mk W n0 b1 b2 D C) (hg : W.grownBy W' row) (hr : ∀ k, row = some k → B ≤ k) (h0 : n0 < B ∧ b1 < B ∧ b2 < B) : Mk W' n0 b1 b2 D C :=
  ⟨h.dr.grown hg (fun e => by have := hr n0 e.symm; omega), h.res.grown hg (fun e => by have := hr b1 e.symm; omega), h.lay.grown hg (fun e => by have := hr b2 e.symm; omega), h.ne⟩

/-- What the draft's form gives. -/
def Sw (w W : World) (n0 b1 b2 : Nat) (D : Array Value) (d : Dr) (v7 : Value) : Prop :=
  ∃ vN vQ, Mk W n0 b1 b2 D #[vN, .slice none 0 0, .slice none 0 0, vQ, .slice none 0 0, .int .i64 0, .int .i64 0, .int .i64 0, .int .i64 0, .int .i64 0] ∧ IsNodes W vN (makeNodes d) ∧ IsPoints W vQ (makePoints d) ∧ Ends W v7 (makeEnds d) ∧ Below n0 w W

theorem Tryz.info58 : (Tryz.prog.info? 58).map (fun i => (i.zero, i.size, i.bytes)) = some (some (.agg #[.int .i64 0, .int .i64 0]), 2, 16) := by kernel_rfl

def ecells (xs : List (Int × Int)) : List Value := xs.flatMap fun s => [.int .i64 s.1, .int .i64 s.2]

theorem ecells_snoc (xs : List (Int × Int)) (x : Int × Int) : ecells xs ++ [.int .i64 x.1, .int .i64 x.2] = ecells (xs ++ [x]) := by simp [ecells]

theorem ecells_get (xs : List (Int × Int)) : ∀ j (h : j < xs.length), (ecells xs)[j * 2]? = some (.int .i64 xs[j].1) ∧ (ecells xs)[j * 2 + 1]? = some (.int .i64 xs[j].2) := by
  induction xs with
  | nil => intro j h; simp at h
  | cons a r ih =>
    intro j h
    have e : ecells (a :: r) = .int .i64 a.1 :: .int .i64 a.2 :: ecells r := by simp [ecells]
    cases j with
    | zero => rw [e]; simp
    | succ j =>
      rw [e]
      obtain ⟨h1, h2⟩ := ih j (by simpa using h)
      have e1 : (j + 1) * 2 = j * 2 + 2 := by omega
      rw [e1]
      simp only [List.getElem?_cons_succ, List.getElem_cons_succ]
      exact ⟨h1, h2⟩

theorem Ends.of_own {w : World} {base n : Nat} {v : Value} {xs : List (Int × Int)} (h : w.ownsRow base 58 2 v n (ecells xs)) (hn : xs.length = n) : Ends w v xs := by
  subst hn
  rcases h.2 with ⟨rfl, h0⟩ | ⟨g, cap, cur, hv, _, hh, _⟩
  · exact ⟨none, 0, by rw [h0], fun hp => by omega⟩
  · subst hv
    refine ⟨_, _, rfl, fun _ => ⟨g, cur, (0, 0), rfl, hh, fun j hj => ?_⟩⟩
    obtain ⟨a, b⟩ := ecells_get xs j hj
    exact ⟨own_cur h hh _ _ a, own_cur h hh _ _ b⟩

theorem Mk.kept {W W' : World} {n0 b1 b2 : Nat} {D C : Array Value} (h : Mk W n0 b1 b2 D C) (hk : KeptL [] W W') : Mk W' n0 b1 b2 D C := ⟨hk.row h.dr (by simp), hk.row h.res (by simp), hk.row h.lay (by simp), h.ne⟩

def nodeAt (d : Dr) (i : Nat) : Int × Int := (((unit d * i : Nat) : Int), 0)

def endAt (i : Nat) : Int × Int := ((i : Int), (i : Int) + 1)

theorem IsPoints.nil (w : World) : IsPoints w (.slice none 0 0) [] := ⟨none, 0, rfl, fun h => absurd h (by simp)⟩

theorem cell_alloc {w : World} {a : Addr} {v : Value} {o : Obj} (h : w.cell? a = some v) : (w.alloc o).cell? a = some v := by rw [World.cell?_alloc_some w a o (by rw [h]; rfl)]; exact h

theorem Mk.away {W : World} {n0 b1 b2 : Nat} {D C : Array Value} (h : Mk W n0 b1 b2 D C) {p : Addr} (h0 : n0 ≠ p.block ∧ b1 ≠ p.block ∧ b2 ≠ p.block) (u : Value) : Mk (W.setCell p u) n0 b1 b2 D C := ⟨h.dr.far h0.1 u, h.res.far h0.2.1 u, h.lay.far h0.2.2 u, h.ne⟩

theorem KeptL.setNew {S : List Nat} {a w : World} (h : KeptL S a w) {p : Addr} (hp : a.heap.size ≤ p.block) (u : Value) : KeptL S a (w.setCell p u) :=
  ⟨h.os, h.tape, h.output, by simpa [World.setCell] using h.size, fun k hk hn => (Below.heap_setCell w p u k (by omega)).trans (h.block k hk hn)⟩

theorem ivals_snoc' (xs : List Int) (x : Int) : ivals xs ++ [.int .i64 x] = ivals (xs ++ [x]) := by simp [ivals]

open Go.Deep Go.WideShapes

theorem makeNodes_len (d : Dr) : (makeNodes d).length ≤ 9 := by
  unfold makeNodes
  split <;> simp
  unfold rowLen; omega

theorem makePoints_len (d : Dr) : (makePoints d).length ≤ 2 := by
  unfold makePoints
  split <;> simp

theorem small_iff {d : Dr} (h : small d = true) : d.routes.length ≤ 20 ∧ ∀ r ∈ d.routes, r.length ≤ 10 := by
  unfold small at h
  rw [Bool.and_eq_true] at h
  exact ⟨of_decide_eq_true h.1, fun r hr => of_decide_eq_true (List.all_eq_true.1 h.2 r hr)⟩

theorem u8_nat {n : Int} (h : (Lit.int .u8 n).wf = true) : ∃ k : Nat, n = (k : Int) ∧ k < 256 := by
  simp only [Lit.wf, Bool.and_eq_true, decide_eq_true_eq] at h
  rw [show IntKind.u8.min = 0 from by decide, show IntKind.u8.max = 255 from by decide] at h
  exact ⟨n.toNat, by omega, by omega⟩

theorem u16_nat {n : Int} (h : (Lit.int .u16 n).wf = true) : ∃ k : Nat, n = (k : Int) ∧ k < 65536 := by
  simp only [Lit.wf, Bool.and_eq_true, decide_eq_true_eq] at h
  rw [show IntKind.u16.min = 0 from by decide, show IntKind.u16.max = 65535 from by decide] at h
  exact ⟨n.toNat, by omega, by omega⟩

theorem brows_of_trod {H : Type} {enc : TypeId × Value → H} {W : World} {base fuel : Nat} {held : Bool} {x : DataW H × List MemPlace} {c : Value}
    (hf : DataW.trod enc Tryz.prog W base (fun _ => true) held fuel 23 [c] = some x) :
    ∃ rows : List (List Nat), BRows W W.heap.size c rows ∧ rows.length ≤ 9223372036854775807 ∧ (∀ r ∈ rows, r.length ≤ 9223372036854775807) ∧ ∀ r ∈ rows, ∀ y ∈ r, y < 256 := by
  rcases open_int_rows Tryz.underlying23 Tryz.underlying45 Tryz.underlying5 (by kernel_rfl) (by kernel_rfl) hf with ⟨hcs, _⟩ | ⟨a, len, cap, A, L, C, Z, hcs, _, hl, hm, _, hx⟩
  · simp only [List.cons.injEq, and_true] at hcs
    subst hcs
    exact ⟨[], ⟨[], Rd.empty _ _, rfl, fun i h => absurd h (by simp)⟩, by simp, by simp, by simp⟩
  · simp only [List.cons.injEq, and_true] at hcs
    subst hcs
    have each : ∀ r, r < len → ∃ q : List Nat, q.length = L r ∧ (∀ y ∈ q, y < 256) ∧ Rd W W.heap.size (.slice (A r) (L r) (C r)) (bvals q) := by
      intro r hr
      obtain ⟨_, h2, h3, h4, h5, h6, h7⟩ := hx r (by omega)
      cases eA : A r with
      | none =>
        have hC := h6 eA
        have hL : L r = 0 := by omega
        refine ⟨[], by simp [hL], by simp, ?_⟩
        rw [hL, hC]
        exact Rd.empty _ _
      | some a' =>
        exact arg_some h2 h4 (fun i hi => (h7 a' eA).2 i (by omega)) h5
    obtain ⟨Q, hQ⟩ := choose_lt each
    refine ⟨(List.range len).map Q, ⟨(List.range len).map fun r => .slice (A r) (L r) (C r), ?_, by simp, ?_⟩, ?_, ?_, ?_⟩
    · refine ⟨some a, cap, by simp, ⟨(fun h => by cases h), by simpa using hl⟩, fun hp => ?_⟩
      have hp' : 0 < len := by simpa using hp
      obtain ⟨b, off, spot⟩ := a
      have h0 := (hx 0 (by omega)).1
      have hspot : spot = none := by simpa [Addr.add] using World.cell?_spot h0
      subst hspot
      refine ⟨b, off, rfl, cell_lt h0, fun j u hu => ?_⟩
      have hj : j < len := by have := (List.getElem?_eq_some_iff.1 hu).1; simpa using this
      have hu2 : u = .slice (A j) (L j) (C j) := by simp [hj] at hu; exact hu.symm
      subst hu2
      have hh := (hx j (by omega)).1
      rw [show ((⟨b, off, none⟩ : Addr).add j) = ⟨b, off + j, none⟩ from by simp [Addr.add]] at hh
      exact hh
    · intro i h1 h2
      have hi : i < len := by simpa using h1
      simp only [List.getElem_map, List.getElem_range]
      exact (hQ i hi).2.2
    · simp only [List.length_map, List.length_range]
      unfold maxLen at hm; omega
    · intro r hr
      simp only [List.mem_map, List.mem_range] at hr
      obtain ⟨i, hi, rfl⟩ := hr
      obtain ⟨_, h2, h3, _⟩ := hx i (by omega)
      rw [(hQ i hi).1]
      unfold maxLen at h3; omega
    · intro r hr
      simp only [List.mem_map, List.mem_range] at hr
      obtain ⟨i, hi, rfl⟩ := hr
      exact (hQ i hi).2.1

theorem draft_of_trod {H : Type} {enc : TypeId × Value → H} {W : World} {base : Nat} {v : Value} {dd : DataW H} {p : List MemPlace}
    (hval : Value.okWide Tryz.prog W .any base 25 v) (h : DataW.Trod enc Tryz.prog W 0 (fun _ => true) true 25 v dd p) :
    ∃ (d : Dr) (vr : Value), v = drV d vr ∧ DrOk d ∧ BRows W W.heap.size vr d.routes ∧ d.routes.length ≤ 9223372036854775807 ∧ ∀ r ∈ d.routes, r.length ≤ 9223372036854775807 := by
  obtain ⟨cs, rfl, hsz⟩ := okWide_struct Tryz.underlying25 hval
  rw [show Tryz.prog.cellsOf 25 = 9 from by kernel_rfl] at hsz
  obtain ⟨fuel, hf⟩ := h
  obtain ⟨l⟩ := cs
  match l, hsz with
  | [c0, c1, c2, c3, c4, c5, c6, c7, c8], _ =>
    obtain ⟨xs, n, _, _, _, hlen, hfs⟩ := DataW.trod_struct Tryz.underlying25 hf
    match xs, hlen with
    | [y0, y1, y2, y3, y4, y5, y6, y7, y8], _ =>
      have c5' : Tryz.prog.cellsOf 5 = 1 := by kernel_rfl
      have c22 : Tryz.prog.cellsOf 22 = 1 := by kernel_rfl
      have c23 : Tryz.prog.cellsOf 23 = 1 := by kernel_rfl
      have g0 : DataW.trod enc Tryz.prog W 0 (fun _ => true) true n 5 [c0] = some y0 := by simpa [Value.cells, c5'] using hfs 0 _ rfl
      have g1 : DataW.trod enc Tryz.prog W 0 (fun _ => true) true n 5 [c1] = some y1 := by simpa [Value.cells, c5'] using hfs 1 _ rfl
      have g2 : DataW.trod enc Tryz.prog W 0 (fun _ => true) true n 5 [c2] = some y2 := by simpa [Value.cells, c5'] using hfs 2 _ rfl
      have g3 : DataW.trod enc Tryz.prog W 0 (fun _ => true) true n 22 [c3] = some y3 := by simpa [Value.cells, c22] using hfs 3 _ rfl
      have g4 : DataW.trod enc Tryz.prog W 0 (fun _ => true) true n 22 [c4] = some y4 := by simpa [Value.cells, c22] using hfs 4 _ rfl
      have g5 : DataW.trod enc Tryz.prog W 0 (fun _ => true) true n 5 [c5] = some y5 := by simpa [Value.cells, c5'] using hfs 5 _ rfl
      have g6 : DataW.trod enc Tryz.prog W 0 (fun _ => true) true n 5 [c6] = some y6 := by simpa [Value.cells, c5'] using hfs 6 _ rfl
      have g7 : DataW.trod enc Tryz.prog W 0 (fun _ => true) true n 5 [c7] = some y7 := by simpa [Value.cells, c5'] using hfs 7 _ rfl
      have g8 : DataW.trod enc Tryz.prog W 0 (fun _ => true) true n 23 [c8] = some y8 := by simpa [Value.cells, c23] using hfs 8 _ rfl
      obtain ⟨z0, e0, _, w0⟩ := DataW.trod_int Tryz.underlying5 g0
      obtain ⟨z1, e1, _, w1⟩ := DataW.trod_int Tryz.underlying5 g1
      obtain ⟨z2, e2, _, w2⟩ := DataW.trod_int Tryz.underlying5 g2
      obtain ⟨z3, e3, _, w3⟩ := DataW.trod_int Tryz.underlying22 g3
      obtain ⟨z4, e4, _, w4⟩ := DataW.trod_int Tryz.underlying22 g4
      obtain ⟨z5, e5, _, w5⟩ := DataW.trod_int Tryz.underlying5 g5
      obtain ⟨z6, e6, _, w6⟩ := DataW.trod_int Tryz.underlying5 g6
      obtain ⟨z7, e7, _, w7⟩ := DataW.trod_int Tryz.underlying5 g7
      simp only [List.cons.injEq, and_true] at e0 e1 e2 e3 e4 e5 e6 e7
      obtain ⟨n0, rfl, b0⟩ := u8_nat w0
      obtain ⟨n1, rfl, b1⟩ := u8_nat w1
      obtain ⟨n2, rfl, b2⟩ := u8_nat w2
      obtain ⟨n3, rfl, b3⟩ := u16_nat w3
      obtain ⟨n4, rfl, b4⟩ := u16_nat w4
      obtain ⟨n5, rfl, b5⟩ := u8_nat w5
      obtain ⟨n6, rfl, b6⟩ := u8_nat w6
      obtain ⟨n7, rfl, b7⟩ := u8_nat w7
      obtain ⟨rows, hr, hl, hrl, hby⟩ := brows_of_trod g8
      refine ⟨⟨n0, n1, n2, n3, n4, n5, n6, n7, rows⟩, c8, ?_, ⟨b0, b1, b2, b3, b4, b5, b6, b7, hby⟩, hr, hl, hrl⟩
      rw [e0, e1, e2, e3, e4, e5, e6, e7]
      rfl

theorem BRows.up {w w' : World} {v : Value} {xs : List (List Nat)} (h : BRows w w.heap.size v xs) (hb : Below w.heap.size w w') : BRows w' w'.heap.size v xs :=
  h.mono hb.size fun _ hp => hb.cell hp

theorem own_cap {w : World} {B n m c : Nat} {t : TypeId} {s : Nat} {A : Option Addr} {xs : List Value} (h : w.ownsRow B t s (.slice A n c) m xs) : n ≤ c := by
  rcases h.2 with ⟨e, rfl⟩ | ⟨g, cap, cur, e, _, _, hc, _⟩
  · injection e with _ e1 e2; omega
  · injection e with _ e1 e2; omega

end Go.Proofs.YtagkgejdammflaaGreat
