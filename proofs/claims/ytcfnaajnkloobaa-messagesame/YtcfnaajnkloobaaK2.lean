/- Slices of numbers; what the writer and the readers leave. -/
import Derived.Test.YtcfnaajnkloobaaK1
import Derived.Test.YtcfnaajnkloobaaAid
namespace Go.Proofs.Ytcfnaajnkloobaa
open Go.RowKit
set_option maxRecDepth 100000

def ivals (xs : List Int) : List Value := xs.map (Value.int .i64)

theorem ivals_length (xs : List Int) : (ivals xs).length = xs.length := by simp [ivals]

theorem ivals_get (xs : List Int) (i : Nat) (h : i < xs.length) : (ivals xs)[i]? = some (.int .i64 xs[i]) := by simp [ivals, h]

theorem ivals_one (xs : List Int) : ∀ u ∈ ivals xs, u.oneCell' = true := by
  intro u hu; simp only [ivals, List.mem_map] at hu; obtain ⟨x, _, rfl⟩ := hu; rfl

theorem ivals_append (xs ys : List Int) : ivals xs ++ ivals ys = ivals (xs ++ ys) := by simp [ivals]

theorem u_cast (n : Int) : ((u n : Nat) : Int) = n % 18446744073709551616 := by unfold u; omega

/-- What a call of the writer at 'g' leaves. -/
def Laid (B g : Nat) (l : List Bool) (w : World) (e : Ending) (w' : World) : Prop := e = .returned (.tuple #[]) ∧ Wr w' B g l ∧ Kept B g w w' ∧ Still g w w'

theorem Wr.row {w : World} {B g : Nat} {l : List Bool} (h : Wr w B g l) : ∃ cs, Row w g 48 cs := by obtain ⟨v, hr, _⟩ := h; exact ⟨_, hr⟩

theorem u_wrap (n : Int) : ((u n : Nat) : Int) = IntKind.u64.wrap n := by
  rw [u_cast]; simp [IntKind.wrap, IntKind.bits, IntKind.signed]

theorem Wr.alloc {w : World} {B g : Nat} {l : List Bool} (h : Wr w B g l) (o : Obj) : Wr (w.alloc o) B g l := by
  obtain ⟨v, hr, ho⟩ := h
  exact ⟨v, hr.alloc o, ho.alloc o⟩

theorem Still.of_below {g : Nat} {w w' : World} (h : Below w.heap.size w w') : Still g w w' := fun k t cs fr _ _ hk => by
  have hlt : k < w.heap.size := by
    rcases Nat.lt_or_ge k w.heap.size with c | c
    · exact c
    · rw [Array.getElem?_eq_none c] at hk; cases hk
  rw [h.block k hlt]; exact hk

theorem Wr.fresh {w w' : World} {B g : Nat} {l : List Bool} (h : Wr w B g l) (hb : Below w.heap.size w w') : Wr w' B g l := Below.wr hb h (Nat.le_refl _)

/-- Behind new memory. -/
theorem Laid.pre {B g : Nat} {l : List Bool} {w w1 w' : World} {e : Ending} (h : Laid B g l w1 e w') (hb : Below w.heap.size w w1) (hB : B ≤ w.heap.size) : Laid B g l w e w' :=
  ⟨h.1, h.2.1, (Kept.of_below (hb.mono hB)).trans h.2.2.1, (Still.of_below hb).trans h.2.2.2⟩

theorem Laid.seq {B g : Nat} {l l' : List Bool} {w w1 w' : World} {e e1 : Ending} (h1 : Laid B g l w e1 w1) (h : Laid B g l' w1 e w') : Laid B g l' w e w' :=
  ⟨h.1, h.2.1, h1.2.2.1.trans h.2.2.1, h1.2.2.2.trans h.2.2.2⟩

theorem Still.row {g k : Nat} {w w' : World} (h : Still g w w') {t t' : TypeId} {cs cs' : Array Value} (hr : Row w k t cs) (h5 : t ≠ 5) (hg : Row w g t' cs') (ht : t ≠ t') : Row w' k t cs := h k t cs (0, 0) h5 (Row.ne hr hg ht) hr

theorem Kept.cellD {B g D : Nat} {w w' : World} (h : Kept B g w w') (hD : D ≤ B) (hg : D ≤ g) : ∀ p : Addr, p.block < D → w'.cell? p = w.cell? p := fun p hp =>
  World.cell?_of_block (h.block p.block (by omega) (by omega))

/-- Bits, as the document has them. -/
def Src (w : World) (v : Value) (l : List Bool) : Prop := (v = .slice none 0 0 ∧ l = []) ∨ ∃ b, w.ownsRow b 4 1 v l.length (cvals l)

theorem Src.below {w w' : World} {v : Value} {l : List Bool} (h : Src w v l) (hb : Below w.heap.size w w') : Src w' v l := by
  rcases h with h | ⟨b, ho⟩
  · exact Or.inl h
  · exact Or.inr ⟨b, (Kept.of_below (g := w.heap.size) hb).owns ho fun k hk => ⟨(ho.lt k hk).2, by have := (ho.lt k hk).2; omega⟩⟩

theorem Src.nil (w : World) : Src w (.slice none 0 0) [] := Or.inl ⟨rfl, rfl⟩

theorem Src.rd {w : World} {v : Value} {l : List Bool} (h : Src w v l) : Rd w w.heap.size v (cvals l) := by
  rcases h with ⟨rfl, rfl⟩ | ⟨b, ho⟩
  · exact Rd.empty _ _
  · exact Rd.of_own ho

def RetSrc (l : List Bool) (w : World) (e : Ending) (w' : World) : Prop := ∃ v', e = .returned v' ∧ Src w' v' l ∧ Below w.heap.size w w'

theorem RetSrc.pre {l : List Bool} {w w1 w' : World} {e : Ending} (h : RetSrc l w1 e w') (hb : Below w.heap.size w w1) : RetSrc l w e w' := by
  obtain ⟨v, he, hs, hb'⟩ := h
  exact ⟨v, he, hs, hb.trans (hb'.mono hb.size)⟩

theorem Below.row {B k : Nat} {w w' : World} (h : Below B w w') {t : TypeId} {cs : Array Value} (hr : Row w k t cs) (hk : k < B) : Row w' k t cs := (h.block k hk).trans hr

theorem Rd.at {w : World} {D : Nat} {A : Option Addr} {n c : Nat} {xs : List Value} (h : Rd w D (.slice A n c) xs) {i : Nat} {u : Value} (hu : xs[i]? = some u) : ∃ b o, A = some ⟨b, o, none⟩ ∧ b < D ∧ w.cell? ⟨b, o + i, none⟩ = some u := by
  have hj := (List.getElem?_eq_some_iff.1 hu).1
  obtain ⟨A', c', hv, _, hx⟩ := h
  obtain ⟨b, o, hA, hb, hc⟩ := hx (by omega)
  injection hv with h1
  subst h1
  exact ⟨b, o, hA, hb, hc i u hu⟩

theorem RetSrc.row {l : List Bool} {w w' : World} {e : Ending} (h : RetSrc l w e w') {k : Nat} {t : TypeId} {cs : Array Value} (hr : Row w k t cs) : Row w' k t cs := by
  obtain ⟨v, he, hs, hb⟩ := h
  exact Below.row hb hr hr.lt

/-- Nothing that was there has turned but the blocks of 'S'. -/
structure KeptL (S : List Nat) (w w' : World) : Prop where
  os : w'.os = w.os
  tape : w'.tape = w.tape
  output : w'.output = w.output
  size : w.heap.size ≤ w'.heap.size
  block : ∀ k, k < w.heap.size → k ∉ S → w'.heap[k]? = w.heap[k]?

theorem KeptL.refl (S : List Nat) (w : World) : KeptL S w w := ⟨rfl, rfl, rfl, Nat.le_refl _, fun _ _ _ => rfl⟩

theorem KeptL.trans {S : List Nat} {a b c : World} (h : KeptL S a b) (k : KeptL S b c) : KeptL S a c :=
  ⟨k.os.trans h.os, k.tape.trans h.tape, k.output.trans h.output, Nat.le_trans h.size k.size, fun i hi hg => (k.block i (Nat.lt_of_lt_of_le hi h.size) hg).trans (h.block i hi hg)⟩

theorem KeptL.mono {S S' : List Nat} {w w' : World} (h : KeptL S w w') (hs : ∀ k ∈ S, k ∈ S') : KeptL S' w w' :=
  ⟨h.os, h.tape, h.output, h.size, fun k hk hn => h.block k hk fun hm => hn (hs k hm)⟩

theorem KeptL.of_below {S : List Nat} {w w' : World} (h : Below w.heap.size w w') : KeptL S w w' := ⟨h.os, h.tape, h.output, h.size, fun k hk _ => h.block k hk⟩

theorem KeptL.alloc {S : List Nat} {a w : World} (h : KeptL S a w) (o : Obj) : KeptL S a (w.alloc o) := h.trans (KeptL.of_below ((Below.refl _ _).alloc (Nat.le_refl _) o))

theorem KeptL.set {S : List Nat} {a w : World} (h : KeptL S a w) {p : Addr} (hp : p.block ∈ S) (u : Value) : KeptL S a (w.setCell p u) :=
  h.trans ⟨rfl, rfl, rfl, by simp [World.setCell], fun k _ hn => Below.heap_setCell _ _ _ _ (by rintro rfl; exact hn hp)⟩

/-- What is new need not be named. -/
theorem KeptL.fresh {S : List Nat} {k : Nat} {w w' : World} (h : KeptL (k :: S) w w') (hk : w.heap.size ≤ k) : KeptL S w w' :=
  ⟨h.os, h.tape, h.output, h.size, fun i hi hn => h.block i hi (by intro hm; rcases List.mem_cons.1 hm with e | e
                                                                   · omega
                                                                   · exact hn e)⟩

theorem KeptL.of_only {g : Nat} {w w' : World} (h : Only g w w') : KeptL [g] w w' :=
  ⟨(h 0).os, (h 0).tape, (h 0).output, (h 0).size, fun k _ hn => (h (k + 1)).block k (by omega) (by intro e; exact hn (by simp [e]))⟩

theorem KeptL.below {S : List Nat} {B : Nat} {w w' : World} (h : KeptL S w w') (hB : B ≤ w.heap.size) (hS : ∀ k ∈ S, B ≤ k) : Below B w w' :=
  ⟨h.os, h.tape, h.output, h.size, fun k hk => h.block k (by omega) (by intro hm; have := hS k hm; omega)⟩

theorem KeptL.row {S : List Nat} {w w' : World} (h : KeptL S w w') {k : Nat} {t : TypeId} {cs : Array Value} (hr : Row w k t cs) (hk : k ∉ S) : Row w' k t cs := (h.block k hr.lt hk).trans hr

theorem KeptL.row1 {g : Nat} {w w' : World} (h : KeptL [g] w w') {k : Nat} {t t' : TypeId} {cs cs' : Array Value} (hr : Row w k t cs) (hg : Row w g t' cs') (ht : t ≠ t') : Row w' k t cs := h.row hr (by intro e; exact Row.ne hr hg ht (by simpa using e))

/-- A slice in a block of that type, with its room. -/
def Tl (w : World) (t : TypeId) (v : Value) (xs : List Value) : Prop :=
  ∃ (A : Option Addr) (c : Nat), v = .slice A xs.length c ∧ ((A = none → c = 0) ∧ xs.length ≤ c) ∧ (0 < xs.length → ∃ b o cur fr, A = some ⟨b, o, none⟩ ∧ w.heap[b]? = some (.cells cur t fr) ∧ ∀ j u, xs[j]? = some u → cur[o + j]? = some u)

theorem heap_lt {w : World} {b : Nat} {o : Obj} (h : w.heap[b]? = some o) : b < w.heap.size := by
  rcases Nat.lt_or_ge b w.heap.size with c | c
  · exact c
  · rw [Array.getElem?_eq_none c] at h; cases h

theorem Tl.rd {w : World} {t : TypeId} {v : Value} {xs : List Value} (h : Tl w t v xs) : Rd w w.heap.size v xs := by
  obtain ⟨A, c, hv, h0, hx⟩ := h
  refine ⟨A, c, hv, h0, fun hp => ?_⟩
  obtain ⟨b, o, cur, fr, hA, hh, hc⟩ := hx hp
  exact ⟨b, o, hA, heap_lt hh, fun j u hu => by simp [World.cell?, hh, hc j u hu]⟩

/-- The blocks of 'S' are of other types than 't'. -/
def Other (w : World) (t : TypeId) (S : List Nat) : Prop := ∀ k ∈ S, ∃ t' cs, t ≠ t' ∧ Row w k t' cs

theorem Other.one {w : World} {t t' : TypeId} {g : Nat} {cs : Array Value} (h : Row w g t' cs) (ht : t ≠ t') : Other w t [g] := by
  intro k hk; rw [List.mem_singleton] at hk; subst hk; exact ⟨t', cs, ht, h⟩

theorem Other.two {w : World} {t t' t'' : TypeId} {g g' : Nat} {cs cs' : Array Value} (h : Row w g t' cs) (ht : t ≠ t') (h' : Row w g' t'' cs') (ht' : t ≠ t'') : Other w t [g, g'] := by
  intro k hk
  rcases List.mem_cons.1 hk with e | e
  · subst e; exact ⟨t', cs, ht, h⟩
  · rw [List.mem_singleton] at e; subst e; exact ⟨t'', cs', ht', h'⟩

theorem Other.ne {w : World} {t : TypeId} {S : List Nat} (h : Other w t S) {b : Nat} {cur : Array Value} {fr : Nat × Nat} (hb : w.heap[b]? = some (.cells cur t fr)) : b ∉ S := by
  intro hm
  obtain ⟨t', cs, ht, hr⟩ := h b hm
  unfold Row at hr
  rw [hb] at hr
  injection hr with hr
  injection hr with _ hr
  exact ht hr

theorem Tl.kept {w w' : World} {t : TypeId} {v : Value} {xs : List Value} {S : List Nat} (h : Tl w t v xs) (hk : KeptL S w w') (ho : Other w t S) : Tl w' t v xs := by
  obtain ⟨A, c, hv, h0, hx⟩ := h
  refine ⟨A, c, hv, h0, fun hp => ?_⟩
  obtain ⟨b, o, cur, fr, hA, hh, hc⟩ := hx hp
  exact ⟨b, o, cur, fr, hA, (hk.block b (heap_lt hh) (ho.ne hh)).trans hh, hc⟩

theorem Tl.nil (w : World) (t : TypeId) : Tl w t (.slice none 0 0) [] := ⟨none, 0, rfl, ⟨fun _ => rfl, Nat.le_refl _⟩, fun (h : 0 < ([] : List Value).length) => absurd h (by simp)⟩

/-- The program's reader. -/
def RS (w : World) (B g : Nat) (s : St) : Prop :=
  match s with
  | none => Rr w B g [] 0 true
  | some l => ∃ q rd, Rr w B g q rd false ∧ rd ≤ 8 * q.length ∧ q.length ≤ 4000 ∧ (∀ x ∈ q, x < 256) ∧ l = (upto q q.length).drop rd

theorem Rr.keptL {w w' : World} {B g : Nat} {q : List Nat} {rd : Nat} {fl : Bool} {S : List Nat} (h : Rr w B g q rd fl) (hk : KeptL S w w') (h5 : Other w 5 S) (hg : g ∉ S) : Rr w' B g q rd fl := by
  obtain ⟨v, hr, h1, h2⟩ := h
  refine ⟨v, hk.row hr hg, h1, ?_⟩
  rcases h2 with h2 | ⟨r, cap, cur, rfl, hb, hh, rest⟩
  · exact Or.inl h2
  · exact Or.inr ⟨r, cap, cur, rfl, hb, (hk.block r (heap_lt hh) (h5.ne hh)).trans hh, rest⟩

theorem RS.keptL {w w' : World} {B g : Nat} {s : St} {S : List Nat} (h : RS w B g s) (hk : KeptL S w w') (h5 : Other w 5 S) (hg : g ∉ S) : RS w' B g s := by
  cases s with
  | none => exact Rr.keptL h hk h5 hg
  | some l => obtain ⟨q, rd, hr, rest⟩ := h; exact ⟨q, rd, hr.keptL hk h5 hg, rest⟩

theorem RS.fresh {w w' : World} {B g : Nat} {s : St} (h : RS w B g s) (hb : Below w.heap.size w w') : RS w' B g s := h.keptL (KeptL.of_below (S := []) hb) (by intro k hk; simp at hk) (by simp)

theorem RS.row {w : World} {B g : Nat} {s : St} (h : RS w B g s) : ∃ cs, Row w g 72 cs := by
  cases s with
  | none => obtain ⟨v, hr, _⟩ := h; exact ⟨_, hr⟩
  | some l => obtain ⟨q, rd, ⟨v, hr, _⟩, _⟩ := h; exact ⟨_, hr⟩

/-- A store into a block of another type. -/
theorem RS.set {w : World} {B g k i : Nat} {s : St} {t : TypeId} {cs : Array Value} (h : RS w B g s) (hr : Row w k t cs) (h5 : (5 : TypeId) ≠ t) (h9 : t ≠ 72) (u : Value) : RS (w.setCell ⟨k, i, none⟩ u) B g s := by
  obtain ⟨cs', hg⟩ := h.row
  exact h.keptL ((KeptL.refl [k] w).set (by simp) u) (Other.one hr h5) (by intro e; exact Row.ne hr hg h9 (List.mem_singleton.1 e).symm)

theorem hor_rem (q : List Nat) (rd i : Nat) (h : rd + i ≤ 8 * q.length) : hor ((upto q q.length).drop rd) 0 i = numTo q rd i := by
  induction i with
  | zero => rfl
  | succ i ih =>
    show 2 * hor _ 0 i + (get _ (0 + i)).toNat = 2 * numTo q rd i + (bitQ q (rd + i)).toNat
    rw [ih (by omega)]
    have : get ((upto q q.length).drop rd) (0 + i) = bitQ q (rd + i) := by
      rw [← get_upto q q.length (rd + i) (by omega)]
      unfold get
      simp [List.getD]
    rw [this]

theorem rget_any (w : World) (B g : Nat) (s : St) (W : Nat) (width : Int) (h : RS w B g s) (hw : width = (W : Int)) (h0 : 0 < W) (h64 : W ≤ 64) :
    Calls Try.prog 29 #[.pointer (some ⟨g, 0, none⟩), .int .i64 width] w fun e w' => e = .returned (.int .u64 ((tget W s).1 : Int)) ∧ RS w' B g (tget W s).2 ∧ KeptL [g] w w' := by
  subst hw
  have hm : min (max (W : Int) 0) 64 = (W : Int) := by omega
  cases s with
  | none =>
    refine (get_short w B g [] 0 true (W : Int) h (by simp) (by simp) (by rw [hm]; simp; omega)).mono ?_
    rintro e w' ⟨rfl, h1, h2⟩
    exact ⟨rfl, h1, KeptL.of_only h2⟩
  | some l =>
    obtain ⟨q, rd, hr, h1, h2, h3, rfl⟩ := h
    have hlen : ((upto q q.length).drop rd).length = 8 * q.length - rd := by rw [List.length_drop, upto_length]
    by_cases hs : 8 * q.length - rd < W
    · rw [tget_short (by rw [hlen]; exact hs)]
      refine (get_short w B g q rd false (W : Int) hr (by omega) h1 (by rw [hm]; omega)).mono ?_
      rintro e w' ⟨rfl, k1, k2⟩
      exact ⟨rfl, k1, KeptL.of_only k2⟩
    · rw [tget_long (by rw [hlen]; omega)]
      have hc := get_long w B g q rd false (W : Int) hr h3 (by omega) h1 (by rw [hm]; omega)
      rw [clamp_nat W h64] at hc
      refine hc.mono ?_
      rintro e w' ⟨rfl, k1, k2⟩
      refine ⟨by rw [hor_rem q rd W (by omega)], ⟨q, rd + W, k1, by omega, h2, h3, by rw [List.drop_drop]⟩, KeptL.of_only k2⟩

theorem i64_small (n : Nat) (h : n < 4294967296) : IntKind.i64.wrap (n : Int) = (n : Int) := IntWalk.i64_in _ (by omega)

theorem results_cell_tmp_row {P : Program} {fn : Func} {p u : Tmp} {ty : TypeId} (h : fn.results = #[.cell p ty, .tmp u]) (tmps : Array Value) (w : World) (g : Nat) (t : TypeId) (cs : Array Value) (fr : Nat × Nat) (d : TypeDesc)
    (hp : tmps.getD p undef = .pointer (some ⟨g, 0, none⟩)) (hg : w.heap[g]? = some (.cells cs t fr))
    (hu : P.underlying ty = some d) (hd : (match d with | .struct _ | .array _ _ => true | _ => false) = true) (hi : (P.info? ty).map (·.size) = some cs.size) :
    (results fn tmps).run P w = .ok (.tuple #[.agg cs, tmps.getD u undef]) w := by
  rw [results_cell_tmp h, hp]
  simp [asAddr, run_loadVar_row w g t ty cs fr d hg hu hd hi, Result.andThen]

theorem ok_any (w : World) (B g : Nat) (s : St) (h : RS w B g s) : Calls Try.prog 31 #[.pointer (some ⟨g, 0, none⟩)] w fun e w' => e = .returned (.bool s.isSome) ∧ w = w' := by
  cases s with
  | none => exact ok_some w B g [] 0 true h
  | some l => obtain ⟨q, rd, hr, _⟩ := h; exact ok_some w B g q rd false hr

theorem left_any (w : World) (B g : Nat) (l : List Bool) (h : RS w B g (some l)) : Calls Try.prog 28 #[.pointer (some ⟨g, 0, none⟩)] w fun e w' => e = .returned (.int .i64 (l.length : Int)) ∧ ∃ n, w' = w.drewN n := by
  obtain ⟨q, rd, hr, h1, h2, h3, rfl⟩ := h
  rw [List.length_drop, upto_length]
  exact left_some w B g q rd false hr (by omega) h1

theorem RS.of_reader {w : World} {B g : Nat} {q : List Nat} (h : Rr w B g q 0 false) (hl : q.length ≤ 4000) (hq : ∀ x ∈ q, x < 256) : RS w B g (body q) := ⟨q, 0, h, by omega, hl, hq, by simp⟩

/-- The document's reader: what isn't read yet. -/
def IS (w : World) (b0 g : Nat) (s : St) : Prop :=
  match s with
  | none => InS w b0 g [] true
  | some l => InS w b0 g l false ∧ l.length ≤ 100000

theorem iget_any (w : World) (b0 g : Nat) (s : St) (W : Nat) (width : Int) (h : IS w b0 g s) (hbg : b0 ≠ g) (hw : width = (W : Int)) (h0 : 0 < W) (h64 : W ≤ 64) :
    Calls Try.prog 48 #[.pointer (some ⟨g, 0, none⟩), .int .i64 width] w fun e w' => e = .returned (.int .u64 ((tget W s).1 : Int)) ∧ IS w' b0 g (tget W s).2 ∧ KeptL [g] w w' := by
  subst hw
  cases s with
  | none =>
    refine (inGet_fail w b0 g [] true (W : Int) h (Or.inl rfl) (by simp)).mono ?_
    rintro e w' ⟨rfl, h1, h2⟩
    exact ⟨rfl, h1, KeptL.of_only h2⟩
  | some l =>
    obtain ⟨hi, hl⟩ := h
    by_cases hs : l.length < W
    · rw [tget_short hs]
      refine (inGet_fail w b0 g l false (W : Int) hi (Or.inr (by omega)) hl).mono ?_
      rintro e w' ⟨rfl, h1, h2⟩
      exact ⟨rfl, h1, KeptL.of_only h2⟩
    · rw [tget_long (by omega)]
      refine (inGet_in w b0 g l W hi (by omega) h64 hl hbg).mono ?_
      rintro e w' ⟨rfl, h1, h2⟩
      exact ⟨rfl, ⟨h1, by rw [List.length_drop]; omega⟩, KeptL.of_only h2⟩

theorem cell_block {w : World} {a : Addr} {v : Value} (h : w.cell? a = some v) : a.block < w.heap.size := by
  rcases Nat.lt_or_ge a.block w.heap.size with c | c
  · exact c
  · have := Array.getElem?_eq_none c
    simp [World.cell?, this] at h

theorem InS.keptL {w w' : World} {b0 g : Nat} {l : List Bool} {fl : Bool} {S : List Nat} (h : InS w b0 g l fl) (hk : KeptL S w w') (hg : g ∉ S) (hb : b0 ∉ S) : InS w' b0 g l fl := by
  obtain ⟨A, c, hr, hl, hx⟩ := h
  refine ⟨A, c, hk.row hr hg, hl, fun hp => ?_⟩
  obtain ⟨o, hA, hc⟩ := hx hp
  refine ⟨o, hA, fun j hj => ?_⟩
  have hcj := hc j hj
  have hlt := cell_block hcj
  exact (World.cell?_of_block (hk.block b0 hlt hb)).trans hcj

theorem IS.keptL {w w' : World} {b0 g : Nat} {s : St} {S : List Nat} (h : IS w b0 g s) (hk : KeptL S w w') (hg : g ∉ S) (hb : b0 ∉ S) : IS w' b0 g s := by
  cases s with
  | none => exact InS.keptL h hk hg hb
  | some l => exact ⟨h.1.keptL hk hg hb, h.2⟩

theorem IS.row {w : World} {b0 g : Nat} {s : St} (h : IS w b0 g s) : ∃ v, Row w g 77 #[v, .bool s.isNone] := by
  cases s with
  | none => obtain ⟨A, c, hr, _⟩ := h; exact ⟨_, hr⟩
  | some l => obtain ⟨⟨A, c, hr, _⟩, _⟩ := h; exact ⟨_, hr⟩

theorem IS.len {w : World} {b0 g : Nat} {l : List Bool} (h : IS w b0 g (some l)) : ∃ A c, Row w g 77 #[.slice A l.length c, .bool false] := by
  obtain ⟨⟨A, c, hr, _⟩, _⟩ := h; exact ⟨A, c, hr⟩

theorem IS.fresh {w w' : World} {b0 g : Nat} {s : St} (h : IS w b0 g s) (hb : Below w.heap.size w w') : IS w' b0 g s := h.keptL (KeptL.of_below (S := []) hb) (by simp) (by simp)

theorem IS.ne {w : World} {b0 g k : Nat} {s : St} {t : TypeId} {cs : Array Value} (h : IS w b0 g s) (hr : Row w k t cs) (ht : t ≠ 77) : g ≠ k := by
  obtain ⟨v, hg⟩ := h.row
  exact (Row.ne hr hg ht).symm

theorem KeptL.grown {S : List Nat} {a w w' : World} {row : Option Nat} (h : KeptL S a w) (hg : w.grownBy w' row) (hr : ∀ k, row = some k → a.heap.size ≤ k) : KeptL S a w' :=
  ⟨hg.os.trans h.os, hg.tape.trans h.tape, hg.output.trans h.output, Nat.le_trans h.size hg.size, fun i hi hn => (hg.block i (Nat.lt_of_lt_of_le hi h.size) (fun e => by have := hr i e.symm; omega)).trans (h.block i hi hn)⟩

theorem own_keptL {w w' : World} {base : Nat} {e : TypeId} {size n : Nat} {v : Value} {xs : List Value} {S : List Nat} (h : w.ownsRow base e size v n xs) (hk : KeptL S w w') (ho : Other w e S) : w'.ownsRow base e size v n xs := by
  obtain ⟨h1, h2⟩ := h
  refine ⟨h1, ?_⟩
  rcases h2 with h2 | ⟨r, cap, cur, rfl, hb, hh, rest⟩
  · exact Or.inl h2
  · exact Or.inr ⟨r, cap, cur, rfl, hb, (hk.block r (heap_lt hh) (ho.ne hh)).trans hh, rest⟩

theorem Tl.of_own {w : World} {base n : Nat} {e : TypeId} {v : Value} {xs : List Value} (h : w.ownsRow base e 1 v n xs) : Tl w e v xs := by
  have hl : xs.length = n := by simpa using h.1
  rcases h.2 with ⟨rfl, rfl⟩ | ⟨g, cap, cur, rfl, _, hh, hcap, _, _, hcells⟩
  · exact ⟨none, 0, by rw [hl], ⟨fun _ => rfl, by omega⟩, fun hp => by omega⟩
  · refine ⟨some ⟨g, 0, none⟩, cap, by rw [hl], ⟨(fun h => by cases h), by omega⟩, fun _ => ⟨g, 0, cur, (0, 0), rfl, hh, fun j u hu => ?_⟩⟩
    have hj : j < n := by have := (List.getElem?_eq_some_iff.1 hu).1; omega
    have hc := h.cellAt j (by omega)
    rw [hu] at hc
    rw [Nat.zero_add]
    simpa [World.cell?, hh] using hc

theorem own_slice {w : World} {base n : Nat} {e : TypeId} {size : Nat} {v : Value} {xs : List Value} (h : w.ownsRow base e size v n xs) : ∃ A c, v = .slice A n c := by
  rcases h.2 with ⟨rfl, rfl⟩ | ⟨g, cap, cur, rfl, _⟩
  · exact ⟨_, _, rfl⟩
  · exact ⟨_, _, rfl⟩

theorem IS.of_own {w : World} {base : Nat} {v : Value} {l : List Bool} {g : Nat} (h : w.ownsRow base 4 1 v l.length (cvals l)) (hr : Row w g 77 #[v, .bool false]) (hl : l.length ≤ 100000) (d : Nat) (hd : d < w.heap.size) : ∃ b0, IS w b0 g (some l) ∧ (b0 = d ∨ base ≤ b0) ∧ b0 < w.heap.size ∧ (b0 ≠ d → b0 ≠ g) := by
  rcases h.2 with ⟨rfl, h0⟩ | ⟨r, cap, cur, hv, hb, hh, hcap, _⟩
  · refine ⟨d, ⟨⟨none, 0, by rw [h0]; exact hr, by omega, fun hp => by omega⟩, hl⟩, Or.inl rfl, hd, fun hn => absurd rfl hn⟩
  · subst hv
    refine ⟨r, ⟨⟨some ⟨r, 0, none⟩, cap, hr, hcap, fun _ => ⟨0, rfl, fun j hj => ?_⟩⟩, hl⟩, Or.inr hb, heap_lt hh, fun _ => ?_⟩
    · rw [Nat.zero_add, h.cellAt j (by omega)]; exact cvals_get l j hj
    · exact Row.ne (t := 4) hh hr (by decide)

theorem KeptL.of_grown {w w' : World} {row : Option Nat} (h : w.grownBy w' row) : KeptL row.toList w w' :=
  ⟨h.os, h.tape, h.output, h.size, fun k hk hn => h.block k hk (by rintro rfl; exact hn (by simp))⟩

theorem IS.grown {w w' : World} {b0 g B : Nat} {s : St} {row : Option Nat} (h : IS w b0 g s) (hg : w.grownBy w' row) (hr : ∀ k, row = some k → B ≤ k) (h1 : g < B) (h2 : b0 < B) : IS w' b0 g s :=
  h.keptL (KeptL.of_grown hg) (by intro hm; have := hr g (by simpa using hm); omega) (by intro hm; have := hr b0 (by simpa using hm); omega)

theorem Tl.grown {w w' : World} {t t' : TypeId} {v v' : Value} {xs ys : List Value} {base size n : Nat} (h : Tl w t v xs) (ho : w.ownsRow base t' size v' n ys) (hg : w.grownBy w' v'.ownBlock) (ht : t ≠ t') : Tl w' t v xs := by
  obtain ⟨A, c, hv, h0, hx⟩ := h
  refine ⟨A, c, hv, h0, fun hp => ?_⟩
  obtain ⟨b, o, cur, fr, hA, hh, hc⟩ := hx hp
  refine ⟨b, o, cur, fr, hA, (hg.block b (heap_lt hh) ?_).trans hh, hc⟩
  intro e
  rcases ho.2 with ⟨rfl, _⟩ | ⟨g', cap, cur', rfl, _, hh', _⟩
  · simp [Value.ownBlock] at e
  · have : b = g' := by simpa [Value.ownBlock] using e
    subst this
    rw [hh] at hh'
    injection hh' with hh'
    injection hh' with _ hh'
    exact ht hh'

theorem ivals_snoc (xs : List Int) (x : Int) : ivals xs ++ [.int .i64 x] = ivals (xs ++ [x]) := by simp [ivals]

theorem IS.setL {w : World} {b0 g k i : Nat} {s : St} {t : TypeId} {cs : Array Value} (h : IS w b0 g s) (hr : Row w k t cs) (ht : t ≠ 77) (hb : b0 ≠ k) (u : Value) : IS (w.setCell ⟨k, i, none⟩ u) b0 g s :=
  h.keptL ((KeptL.refl [k] w).set (by simp) u) (by intro e; exact h.ne hr ht (List.mem_singleton.1 e)) (by intro e; exact hb (List.mem_singleton.1 e))

def RetL (b : Bool) (w : World) (e : Ending) (w' : World) : Prop := e = .returned (.bool b) ∧ Below w.heap.size w w'

/-- Two layouts, each in a block. -/
structure Two (W : World) (n0 n1 : Nat) (C C' : Array Value) : Prop where
  a : Row W n0 29 C
  b : Row W n1 29 C'

theorem two_of (w : World) (C C' : Array Value) : Two ((w.alloc (.cells C 29)).alloc (.cells C' 29)) w.heap.size (w.heap.size + 1) C C' := by
  have r1 := Row.new w 29 C
  have r2 := Row.new (w.alloc (.cells C 29)) 29 C'
  simp only [World.size_alloc] at r1 r2
  exact ⟨r1.alloc _, r2⟩

theorem Two.drewN {W : World} {n0 n1 : Nat} {C C' : Array Value} (h : Two W n0 n1 C C') (m : Nat) : Two (W.drewN m) n0 n1 C C' := ⟨h.a, h.b⟩

theorem u8_nat {n : Int} (h : (Lit.int .u8 n).wf = true) : ∃ k : Nat, n = (k : Int) ∧ k < 256 := by
  simp only [Lit.wf, Bool.and_eq_true, decide_eq_true_eq] at h
  rw [show IntKind.u8.min = 0 from by decide, show IntKind.u8.max = 255 from by decide] at h
  exact ⟨n.toNat, by omega, by omega⟩

theorem u16_nat {n : Int} (h : (Lit.int .u16 n).wf = true) : ∃ k : Nat, n = (k : Int) ∧ k < 65536 := by
  simp only [Lit.wf, Bool.and_eq_true, decide_eq_true_eq] at h
  rw [show IntKind.u16.min = 0 from by decide, show IntKind.u16.max = 65535 from by decide] at h
  exact ⟨n.toNat, by omega, by omega⟩

theorem take_closed (q : List Nat) (k : Nat) (h : k ≤ q.length) : (closed q).take k = q.take k := by
  unfold closed
  rw [List.take_append_of_le_length h]

theorem own_cap {w : World} {B n m c : Nat} {t : TypeId} {s : Nat} {A : Option Addr} {xs : List Value} (h : w.ownsRow B t s (.slice A n c) m xs) : n ≤ c := by
  rcases h.2 with ⟨e, rfl⟩ | ⟨g, cap, cur, e, _, _, hc, _⟩
  · injection e with _ e1 e2; omega
  · injection e with _ e1 e2; omega

theorem own_cur {w : World} {base n g cap size : Nat} {e : TypeId} {xs : List Value} (h : w.ownsRow base e size (.slice (some ⟨g, 0, none⟩) n cap) n xs) {cur : Array Value} (hh : w.heap[g]? = some (.cells cur e (0, 0))) (j : Nat) (u : Value) (hu : xs[j]? = some u) : cur[j]? = some u := by
  have hl := h.1
  have hj : j < n * size := by have := (List.getElem?_eq_some_iff.1 hu).1; omega
  have hc := h.cellAt j hj
  rw [hu] at hc
  simpa [World.cell?, hh] using hc

theorem row_new (w : World) (t : TypeId) (xs : List Value) : ∀ (j : Nat) (u : Value), xs[j]? = some u → (w.alloc (.cells xs.toArray t)).cell? ((⟨w.heap.size, 0, none⟩ : Addr).add j) = some u := by
  intro j u hj
  rw [add_at, Nat.zero_add, (Row.new w t xs.toArray).cell j]
  simpa using hj

theorem Try.info3 : (Try.prog.info? 3).map (fun i => (i.zero, i.size, i.bytes)) = some (some (.int .i64 0), 1, 8) := by kernel_rfl

end Go.Proofs.Ytcfnaajnkloobaa
