/- What is known of memory. -/
import Derived.Test.YtgophlafmobhfaaProg
import Derived.WalkKit
import Derived.WalkLawsBesides
import Derived.Lib.Hide
import Derived.KernelRfl
import Derived.IntWalk
import Derived.Laws.BitsAllLaws
import Derived.RegionTactic
import Derived.ChangeAlike
import Derived.BigRegion
import Derived.Deep.QuietTactic
import Derived.BigQuiet
import Derived.Deep.Draws
import Derived.OwnWalk
import Derived.Laws.AppendOwnNone
import Derived.Maps.AppendAt
import Derived.Laws.CopyOwn
import Derived.Laws.OwnMore
import Derived.Lib.SlBytesConst
import Derived.OpenShut
import Derived.Deep.Cut
import Derived.Lib.OthersKept
import Derived.LoopN
import Derived.Laws.Rows
import Derived.Laws.ResultCell
import Derived.Laws.MakeOwn
import Derived.Deep.DeepCutAuto
import Derived.OrdersHeld
import Derived.Deep.CutBlock
import Derived.StillTailTactics
import Derived.Deep.AppendLies
import Derived.Deep.RegionHeld
import Derived.Deep.Matrix
import Derived.ProofKit
import Derived.Laws.Externs
import Derived.Lib.Overlaps
import Derived.Deep.RegionHeld3
import Derived.Laws.IdiomCopy
namespace Go.Proofs.Ytgophlafmobhfaa
open Go.RowKit
set_option maxRecDepth 100000

/-- Block 'g' is just these cells, of that type; none is frozen. -/
def Row (w : World) (g : Nat) (t : TypeId) (cs : Array Value) : Prop := w.heap[g]? = some (.cells cs t (0, 0))

theorem Row.lt {w : World} {g : Nat} {t : TypeId} {cs : Array Value} (h : Row w g t cs) : g < w.heap.size := by
  rcases Nat.lt_or_ge g w.heap.size with c | c
  · exact c
  · unfold Row at h; rw [Array.getElem?_eq_none c] at h; cases h

theorem Row.cell {w : World} {g : Nat} {t : TypeId} {cs : Array Value} (h : Row w g t cs) (i : Nat) : w.cell? ⟨g, i, none⟩ = cs[i]? := by
  unfold Row at h; simp [World.cell?, h]

theorem Row.frozen {w : World} {g : Nat} {t : TypeId} {cs : Array Value} (h : Row w g t cs) (i : Nat) : w.frozen? ⟨g, i, none⟩ = false := by
  unfold Row at h; simp [World.frozen?, h]

theorem Row.new (w : World) (t : TypeId) (cs : Array Value) : Row (w.alloc (.cells cs t)) w.heap.size t cs := by
  show (w.heap.push _)[w.heap.size]? = _
  simp

theorem Row.alloc {w : World} {g : Nat} {t : TypeId} {cs : Array Value} (h : Row w g t cs) (o : Obj) : Row (w.alloc o) g t cs :=
  (Below.heap_alloc w o g h.lt).trans h

theorem Row.set {w : World} {g : Nat} {t : TypeId} {cs : Array Value} (h : Row w g t cs) (i : Nat) (u : Value) : Row (w.setCell ⟨g, i, none⟩ u) g t (cs.setIfInBounds i u) := by
  unfold Row at h ⊢
  simp [World.setCell, Array.getElem?_modify, h]

theorem Row.far {w : World} {g : Nat} {t : TypeId} {cs : Array Value} (h : Row w g t cs) {p : Addr} (hp : g ≠ p.block) (u : Value) : Row (w.setCell p u) g t cs :=
  (Below.heap_setCell w p u g hp).trans h

theorem Row.grown {w w' : World} {row : Option Nat} {g : Nat} {t : TypeId} {cs : Array Value} (h : Row w g t cs) (hb : w.grownBy w' row) (hg : some g ≠ row) : Row w' g t cs :=
  (hb.block g h.lt hg).trans h

theorem Row.ne {w : World} {g g' : Nat} {t t' : TypeId} {cs cs' : Array Value} (h : Row w g t cs) (h' : Row w g' t' cs') (hne : t ≠ t') : g ≠ g' := by
  rintro rfl
  unfold Row at h h'
  rw [h] at h'
  injection h' with h'
  injection h' with _ ht
  exact hne ht

theorem own_ne {w : World} {base : Nat} {e : TypeId} {size n g : Nat} {v : Value} {xs : List Value} {t : TypeId} {cs : Array Value} (h : w.ownsRow base e size v n xs) (hg : Row w g t cs) (hne : e ≠ t) : some g ≠ v.ownBlock := by
  rcases h.2 with ⟨rfl, _⟩ | ⟨g', cap, cur, rfl, _, hh, _⟩
  · simp [Value.ownBlock]
  · intro he
    have : g = g' := by simpa [Value.ownBlock] using he
    subst this
    exact Row.ne (t := e) hh hg hne rfl

/-- A slice whose elements are these cells, in blocks below 'B'. -/
def Rd (w : World) (B : Nat) (v : Value) (xs : List Value) : Prop :=
  ∃ (A : Option Addr) (c : Nat), v = .slice A xs.length c ∧ ((A = none → c = 0) ∧ xs.length ≤ c) ∧ (0 < xs.length → ∃ b o, A = some ⟨b, o, none⟩ ∧ b < B ∧ ∀ j u, xs[j]? = some u → w.cell? ⟨b, o + j, none⟩ = some u)

theorem Rd.of_own {w : World} {base n : Nat} {e : TypeId} {v : Value} {xs : List Value} (h : w.ownsRow base e 1 v n xs) : Rd w w.heap.size v xs := by
  have hl : xs.length = n := by simpa using h.1
  rcases h.2 with ⟨rfl, rfl⟩ | ⟨g, cap, cur, rfl, _, _, hcap, _⟩
  · exact ⟨none, 0, by rw [hl], ⟨fun _ => rfl, by omega⟩, fun hp => by omega⟩
  · refine ⟨some ⟨g, 0, none⟩, cap, by rw [hl], ⟨(fun h => by cases h), by omega⟩, fun _ => ⟨g, 0, rfl, (h.lt g rfl).2, fun j u hu => ?_⟩⟩
    have hj : j < n := by have := (List.getElem?_eq_some_iff.1 hu).1; omega
    rw [Nat.zero_add, h.cellAt j (by omega)]; exact hu

theorem Rd.mono {w w' : World} {B B' : Nat} {v : Value} {xs : List Value} (h : Rd w B v xs) (hB : B ≤ B') (hc : ∀ p : Addr, p.block < B → w'.cell? p = w.cell? p) : Rd w' B' v xs := by
  obtain ⟨A, c, hv, h0, hx⟩ := h
  refine ⟨A, c, hv, h0, fun hp => ?_⟩
  obtain ⟨b, o, hA, hb, hcell⟩ := hx hp
  exact ⟨b, o, hA, by omega, fun j u hu => (hc _ hb).trans (hcell j u hu)⟩

theorem Rd.below {w w' : World} {B C : Nat} {v : Value} {xs : List Value} (h : Rd w B v xs) (hb : Below C w w') (hC : B ≤ C) : Rd w' B v xs :=
  h.mono (Nat.le_refl _) fun _ hp => hb.cell (by omega)

/-- The same elements, but for the last ones. -/
theorem Rd.take {w : World} {B : Nat} {A : Option Addr} {n c : Nat} {xs : List Value} (h : Rd w B (.slice A n c) xs) (m : Nat) (hm : m ≤ xs.length) : Rd w B (.slice A m c) (xs.take m) := by
  obtain ⟨A', c', hv, h0, hx⟩ := h
  injection hv with h1 h2 h3
  subst h1; subst h3
  have hl : (xs.take m).length = m := by simp; omega
  refine ⟨A, c, by rw [hl], ⟨h0.1, by have := h0.2; omega⟩, fun hp => ?_⟩
  obtain ⟨b, o, hA, hb, hc⟩ := hx (by omega)
  refine ⟨b, o, hA, hb, fun j u hu => hc j u ?_⟩
  rw [List.getElem?_take] at hu
  split at hu
  · exact hu
  · cases hu

theorem Rd.nil {w : World} {B : Nat} {v : Value} (h : Rd w B v []) : ∃ A c, v = .slice A 0 c ∧ (A = none → c = 0) := by
  obtain ⟨A, c, hv, h0, _⟩ := h; exact ⟨A, c, hv, h0.1⟩

theorem Rd.empty (w : World) (B : Nat) : Rd w B (.slice none 0 0) [] := ⟨_, 0, rfl, ⟨fun _ => rfl, Nat.le_refl _⟩, fun h => absurd h (by simp)⟩

theorem add_at (b o j : Nat) : (⟨b, o, none⟩ : Addr).add j = ⟨b, o + j, none⟩ := by unfold Addr.add; by_cases z : j = 0 <;> simp [z]

/-- The cells behind a slice's address, however many there are. -/
theorem Rd.cells {w : World} {B : Nat} {ad : Addr} {n c : Nat} {xs : List Value} (h : Rd w B (.slice (some ad) n c) xs) : ∀ j u, xs[j]? = some u → w.cell? (ad.add j) = some u := by
  intro j u hu
  have hj := (List.getElem?_eq_some_iff.1 hu).1
  obtain ⟨A, c', hv, _, hx⟩ := h
  obtain ⟨b, o, hA, hb, hc⟩ := hx (by omega)
  injection hv with hv
  rw [← hv] at hA
  injection hA with hA
  subst hA
  rw [add_at]; exact hc j u hu

theorem own_base {w : World} {b b' : Nat} {e : TypeId} {size n : Nat} {v : Value} {xs : List Value} (h : w.ownsRow b e size v n xs) (hb : b' ≤ b) : w.ownsRow b' e size v n xs := by
  obtain ⟨h1, h2⟩ := h
  refine ⟨h1, ?_⟩
  rcases h2 with h2 | ⟨g, cap, cur, rfl, hg, r⟩
  · exact Or.inl h2
  · exact Or.inr ⟨g, cap, cur, rfl, Nat.le_trans hb hg, r⟩

theorem cell_lt {w : World} {a : Addr} {v : Value} (h : w.cell? a = some v) : a.block < w.heap.size := by
  rcases Nat.lt_or_ge a.block w.heap.size with c | c
  · exact c
  · have : w.heap[a.block]? = none := Array.getElem?_eq_none c
    simp [World.cell?, this] at h

theorem Rd.up {w w' : World} {v : Value} {xs : List Value} (h : Rd w w.heap.size v xs) (hb : Below w.heap.size w w') : Rd w' w'.heap.size v xs :=
  h.mono hb.size fun _ hp => hb.cell hp

theorem own_far {w : World} {base : Nat} {e : TypeId} {size : Nat} {v : Value} {n : Nat} {xs : List Value} (h : w.ownsRow base e size v n xs) {a : Addr} (ha : v.ownBlock ≠ some a.block) (u : Value) : (w.setCell a u).ownsRow base e size v n xs := by
  obtain ⟨h1, h2⟩ := h
  refine ⟨h1, ?_⟩
  rcases h2 with h2 | ⟨g, cap, cur, rfl, hg, hh, r⟩
  · exact Or.inl h2
  · refine Or.inr ⟨g, cap, cur, rfl, hg, ?_, r⟩
    rw [Below.heap_setCell _ _ _ _ (by intro e; subst e; exact ha rfl)]; exact hh

theorem ret_bool {a b : Bool} (h : a = b) : Ending.returned (.bool a) = .returned (.bool b) := by rw [h]

theorem one_new (w : World) (t : TypeId) (x : Value) : ∀ j u, [x][j]? = some u → (w.alloc (.cells #[x] t)).cell? ((⟨w.heap.size, 0, none⟩ : Addr).add j) = some u := by
  intro j u hj
  match j, hj with
  | 0, hj => simp at hj; subst hj; simp [Addr.add]

theorem one_cell {x : Value} (h : x.oneCell' = true) : ∀ u ∈ [x], u.oneCell' = true := by
  intro u hu; rw [List.mem_singleton] at hu; rw [hu]; exact h

def ivals (xs : List Int) : List Value := xs.map (Value.int .i64)

theorem Rd.fresh {w w' : World} {D : Nat} {v : Value} {xs : List Value} (h : Rd w D v xs) (hb : Below w.heap.size w w') (hD : D ≤ w.heap.size) : Rd w' D v xs := h.below hb hD

theorem Below.row {B k : Nat} {w w' : World} (h : Below B w w') {t : TypeId} {cs : Array Value} (hr : Row w k t cs) (hk : k < B) : Row w' k t cs := (h.block k hk).trans hr

theorem Rd.at {w : World} {D : Nat} {A : Option Addr} {n c : Nat} {xs : List Value} (h : Rd w D (.slice A n c) xs) {i : Nat} {u : Value} (hu : xs[i]? = some u) : ∃ b o, A = some ⟨b, o, none⟩ ∧ b < D ∧ w.cell? ⟨b, o + i, none⟩ = some u := by
  have hj := (List.getElem?_eq_some_iff.1 hu).1
  obtain ⟨A', c', hv, _, hx⟩ := h
  obtain ⟨b, o, hA, hb, hc⟩ := hx (by omega)
  injection hv with h1
  subst h1
  exact ⟨b, o, hA, hb, hc i u hu⟩

/-- Nothing that was there has turned but the blocks of 'S'. -/
structure KeptL (S : List Nat) (w w' : World) : Prop where
  os : w'.os = w.os
  tape : w'.tape = w.tape
  output : w'.output = w.output
  size : w.heap.size ≤ w'.heap.size
  block : ∀ k, k < w.heap.size → k ∉ S → w'.heap[k]? = w.heap[k]?

theorem KeptL.refl (S : List Nat) (w : World) : KeptL S w w := ⟨rfl, rfl, rfl, Nat.le_refl _, fun _ _ _ => rfl⟩

theorem KeptL.trans {S : List Nat} {a b c : World} (h : KeptL S a b) (k : KeptL S b c) : KeptL S a c :=
  ⟨k.os.trans h.os, k.tape.trans h.tape, k.output.trans h.output, Nat.le_trans h.size k.size, fun i hi hg => (k.block i (Nat.lt_of_lt_of_le hi h.size) hg).trans (h.block i hi hg)⟩

theorem KeptL.mono {S S' : List Nat} {w w' : World} (h : KeptL S w w') (hs : ∀ k ∈ S, k ∈ S') : KeptL S' w w' :=
  ⟨h.os, h.tape, h.output, h.size, fun k hk hn => h.block k hk fun hm => hn (hs k hm)⟩

theorem KeptL.of_below {S : List Nat} {w w' : World} (h : Below w.heap.size w w') : KeptL S w w' := ⟨h.os, h.tape, h.output, h.size, fun k hk _ => h.block k hk⟩

theorem KeptL.alloc {S : List Nat} {a w : World} (h : KeptL S a w) (o : Obj) : KeptL S a (w.alloc o) := h.trans (KeptL.of_below ((Below.refl _ _).alloc (Nat.le_refl _) o))

theorem KeptL.set {S : List Nat} {a w : World} (h : KeptL S a w) {p : Addr} (hp : p.block ∈ S) (u : Value) : KeptL S a (w.setCell p u) :=
  h.trans ⟨rfl, rfl, rfl, by simp [World.setCell], fun k _ hn => Below.heap_setCell _ _ _ _ (by rintro rfl; exact hn hp)⟩

/-- What is new need not be named. -/
theorem KeptL.fresh {S : List Nat} {k : Nat} {w w' : World} (h : KeptL (k :: S) w w') (hk : w.heap.size ≤ k) : KeptL S w w' :=
  ⟨h.os, h.tape, h.output, h.size, fun i hi hn => h.block i hi (by intro hm; rcases List.mem_cons.1 hm with e | e
                                                                   · omega
                                                                   · exact hn e)⟩

theorem KeptL.below {S : List Nat} {B : Nat} {w w' : World} (h : KeptL S w w') (hB : B ≤ w.heap.size) (hS : ∀ k ∈ S, B ≤ k) : Below B w w' :=
  ⟨h.os, h.tape, h.output, h.size, fun k hk => h.block k (by omega) (by intro hm; have := hS k hm; omega)⟩

theorem KeptL.row {S : List Nat} {w w' : World} (h : KeptL S w w') {k : Nat} {t : TypeId} {cs : Array Value} (hr : Row w k t cs) (hk : k ∉ S) : Row w' k t cs := (h.block k hr.lt hk).trans hr

theorem heap_lt {w : World} {b : Nat} {o : Obj} (h : w.heap[b]? = some o) : b < w.heap.size := by
  rcases Nat.lt_or_ge b w.heap.size with c | c
  · exact c
  · rw [Array.getElem?_eq_none c] at h; cases h

/-- The blocks of 'S' are of other types than 't'. -/
def Other (w : World) (t : TypeId) (S : List Nat) : Prop := ∀ k ∈ S, ∃ t' cs, t ≠ t' ∧ Row w k t' cs

theorem Other.one {w : World} {t t' : TypeId} {g : Nat} {cs : Array Value} (h : Row w g t' cs) (ht : t ≠ t') : Other w t [g] := by
  intro k hk; rw [List.mem_singleton] at hk; subst hk; exact ⟨t', cs, ht, h⟩

theorem Other.two {w : World} {t t' t'' : TypeId} {g g' : Nat} {cs cs' : Array Value} (h : Row w g t' cs) (ht : t ≠ t') (h' : Row w g' t'' cs') (ht' : t ≠ t'') : Other w t [g, g'] := by
  intro k hk
  rcases List.mem_cons.1 hk with e | e
  · subst e; exact ⟨t', cs, ht, h⟩
  · rw [List.mem_singleton] at e; subst e; exact ⟨t'', cs', ht', h'⟩

theorem Other.ne {w : World} {t : TypeId} {S : List Nat} (h : Other w t S) {b : Nat} {cur : Array Value} {fr : Nat × Nat} (hb : w.heap[b]? = some (.cells cur t fr)) : b ∉ S := by
  intro hm
  obtain ⟨t', cs, ht, hr⟩ := h b hm
  unfold Row at hr
  rw [hb] at hr
  injection hr with hr
  injection hr with _ hr
  exact ht hr

theorem cell_block {w : World} {a : Addr} {v : Value} (h : w.cell? a = some v) : a.block < w.heap.size := by
  rcases Nat.lt_or_ge a.block w.heap.size with c | c
  · exact c
  · have := Array.getElem?_eq_none c
    simp [World.cell?, this] at h

theorem KeptL.grown {S : List Nat} {a w w' : World} {row : Option Nat} (h : KeptL S a w) (hg : w.grownBy w' row) (hr : ∀ k, row = some k → a.heap.size ≤ k) : KeptL S a w' :=
  ⟨hg.os.trans h.os, hg.tape.trans h.tape, hg.output.trans h.output, Nat.le_trans h.size hg.size, fun i hi hn => (hg.block i (Nat.lt_of_lt_of_le hi h.size) (fun e => by have := hr i e.symm; omega)).trans (h.block i hi hn)⟩

theorem own_slice {w : World} {base n : Nat} {e : TypeId} {size : Nat} {v : Value} {xs : List Value} (h : w.ownsRow base e size v n xs) : ∃ A c, v = .slice A n c := by
  rcases h.2 with ⟨rfl, rfl⟩ | ⟨g, cap, cur, rfl, _⟩
  · exact ⟨_, _, rfl⟩
  · exact ⟨_, _, rfl⟩

theorem KeptL.of_grown {w w' : World} {row : Option Nat} (h : w.grownBy w' row) : KeptL row.toList w w' :=
  ⟨h.os, h.tape, h.output, h.size, fun k hk hn => h.block k hk (by rintro rfl; exact hn (by simp))⟩

theorem own_cur {w : World} {base n g cap size : Nat} {e : TypeId} {xs : List Value} (h : w.ownsRow base e size (.slice (some ⟨g, 0, none⟩) n cap) n xs) {cur : Array Value} (hh : w.heap[g]? = some (.cells cur e (0, 0))) (j : Nat) (u : Value) (hu : xs[j]? = some u) : cur[j]? = some u := by
  have hl := h.1
  have hj : j < n * size := by have := (List.getElem?_eq_some_iff.1 hu).1; omega
  have hc := h.cellAt j hj
  rw [hu] at hc
  simpa [World.cell?, hh] using hc

/-- Two owned rows of unlike types are two blocks. -/
theorem own_apart {w : World} {B B' : Nat} {t t' : TypeId} {s s' n n' : Nat} {v v' : Value} {xs xs' : List Value} (h : w.ownsRow B t s v n xs) (h' : w.ownsRow B' t' s' v' n' xs') (ht : t ≠ t') : v.ownBlock = none ∨ v.ownBlock ≠ v'.ownBlock := by
  rcases h.2 with ⟨rfl, _⟩ | ⟨g, cap, cur, rfl, _, hh, _⟩
  · exact Or.inl rfl
  · right
    intro e
    rcases h'.2 with ⟨rfl, _⟩ | ⟨g', cap', cur', rfl, _, hh', _⟩
    · cases e
    · have e2 : g = g' := by simpa [Value.ownBlock] using e
      subst e2
      rw [hh] at hh'
      injection hh' with hh'
      injection hh' with _ hh' _
      exact ht hh'

theorem KeptL.grownN {w w' : World} (h : KeptL [] w w') : w.grownBy w' none := ⟨h.os, h.tape, h.output, h.size, fun k hk _ => h.block k hk (by simp)⟩

def ecells (xs : List (Int × Int)) : List Value := xs.flatMap fun s => [.int .i64 s.1, .int .i64 s.2]

theorem ecells_snoc (xs : List (Int × Int)) (x : Int × Int) : ecells xs ++ [.int .i64 x.1, .int .i64 x.2] = ecells (xs ++ [x]) := by simp [ecells]

theorem ecells_get (xs : List (Int × Int)) : ∀ j (h : j < xs.length), (ecells xs)[j * 2]? = some (.int .i64 xs[j].1) ∧ (ecells xs)[j * 2 + 1]? = some (.int .i64 xs[j].2) := by
  induction xs with
  | nil => intro j h; simp at h
  | cons a r ih =>
    intro j h
    have e : ecells (a :: r) = .int .i64 a.1 :: .int .i64 a.2 :: ecells r := by simp [ecells]
    cases j with
    | zero => rw [e]; simp
    | succ j =>
      rw [e]
      obtain ⟨h1, h2⟩ := ih j (by simpa using h)
      have e1 : (j + 1) * 2 = j * 2 + 2 := by omega
      rw [e1]
      simp only [List.getElem?_cons_succ, List.getElem_cons_succ]
      exact ⟨h1, h2⟩

theorem cell_alloc {w : World} {a : Addr} {v : Value} {o : Obj} (h : w.cell? a = some v) : (w.alloc o).cell? a = some v := by rw [World.cell?_alloc_some w a o (by rw [h]; rfl)]; exact h

theorem KeptL.setNew {S : List Nat} {a w : World} (h : KeptL S a w) {p : Addr} (hp : a.heap.size ≤ p.block) (u : Value) : KeptL S a (w.setCell p u) :=
  ⟨h.os, h.tape, h.output, by simpa [World.setCell] using h.size, fun k hk hn => (Below.heap_setCell w p u k (by omega)).trans (h.block k hk hn)⟩

theorem own_cap {w : World} {B n m c : Nat} {t : TypeId} {s : Nat} {A : Option Addr} {xs : List Value} (h : w.ownsRow B t s (.slice A n c) m xs) : n ≤ c := by
  rcases h.2 with ⟨e, rfl⟩ | ⟨g, cap, cur, e, _, _, hc, _⟩
  · injection e with _ e1 e2; omega
  · injection e with _ e1 e2; omega

theorem ivals_snoc' (xs : List Int) (x : Int) : ivals xs ++ [.int .i64 x] = ivals (xs ++ [x]) := by simp [ivals]

theorem ret_int {k : IntKind} {a b : Int} (h : a = b) : Ending.returned (.int k a) = .returned (.int k b) := by rw [h]

theorem ecells_len (xs : List (Int × Int)) : (ecells xs).length = xs.length * 2 := by
  induction xs with
  | nil => rfl
  | cons a r ih => simp [ecells] at ih ⊢; omega

theorem ecells_app (xs ys : List (Int × Int)) : ecells xs ++ ecells ys = ecells (xs ++ ys) := by simp [ecells]

theorem ecells_one (xs : List (Int × Int)) : ∀ u ∈ ecells xs, u.oneCell' = true := by
  intro u hu; simp only [ecells, List.mem_flatMap] at hu; obtain ⟨x, _, h⟩ := hu; simp at h; rcases h with rfl | rfl <;> rfl

theorem grown_below {w w' : World} (h : Below w.heap.size w w') (r : Option Nat) : w.grownBy w' r := ⟨h.os, h.tape, h.output, h.size, fun k hk _ => h.block k hk⟩

theorem own_below {w w' : World} {B : Nat} {t : TypeId} {s n : Nat} {v : Value} {xs : List Value} (h : w.ownsRow B t s v n xs) (hb : Below w.heap.size w w') : w'.ownsRow B t s v n xs := by
  refine h.kept (grown_below hb none) ?_
  cases e : v.ownBlock with
  | none => exact Or.inl rfl
  | some k => exact Or.inr (by simp)

theorem Below.drewN {B : Nat} {a w : World} (h : Below B a w) (n : Nat) : Below B a (w.drewN n) := ⟨h.os, h.tape, h.output, h.size, h.block⟩

def RetB (b : Bool) (w : World) (e : Ending) (w' : World) : Prop := e = .returned (.bool b) ∧ ∃ n, w' = w.drewN n

theorem ivals_length (xs : List Int) : (ivals xs).length = xs.length := by simp [ivals]

theorem ivals_get (xs : List Int) (i : Nat) (h : i < xs.length) : (ivals xs)[i]? = some (.int .i64 xs[i]) := by simp [ivals, h]

theorem take_snoc_eq {α : Type} {xs ys : List α} {i : Nat} (h : xs.take i = ys.take i) (h1 : i < xs.length) (h2 : i < ys.length) (he : xs[i] = ys[i]) : xs.take (i + 1) = ys.take (i + 1) := by
  rw [List.take_succ_eq_append_getElem h1, List.take_succ_eq_append_getElem h2, h, he]

end Go.Proofs.Ytgophlafmobhfaa
