/- Contracts: numbers read, by the program's reader. -/
import Derived.Test.YthpfhcelmddjlaaRefEnc
namespace Go.Proofs.Ythpfhcelmddjlaa
open Go.RowKit Fl
set_option maxRecDepth 100000

/-- Nothing that was there has turned but the blocks of 'S'. -/
structure KeptL (S : List Nat) (w w' : World) : Prop where
  os : w'.os = w.os
  tape : w'.tape = w.tape
  output : w'.output = w.output
  size : w.heap.size ≤ w'.heap.size
  block : ∀ k, k < w.heap.size → k ∉ S → w'.heap[k]? = w.heap[k]?

theorem KeptL.refl (S : List Nat) (w : World) : KeptL S w w := ⟨rfl, rfl, rfl, Nat.le_refl _, fun _ _ _ => rfl⟩
theorem KeptL.trans {S : List Nat} {a b c : World} (h : KeptL S a b) (k : KeptL S b c) : KeptL S a c :=
  ⟨k.os.trans h.os, k.tape.trans h.tape, k.output.trans h.output, Nat.le_trans h.size k.size, fun i hi hg => (k.block i (Nat.lt_of_lt_of_le hi h.size) hg).trans (h.block i hi hg)⟩
theorem KeptL.mono {S S' : List Nat} {w w' : World} (h : KeptL S w w') (hs : ∀ k ∈ S, k ∈ S') : KeptL S' w w' :=
  ⟨h.os, h.tape, h.output, h.size, fun k hk hn => h.block k hk fun hm => hn (hs k hm)⟩
theorem KeptL.of_below {S : List Nat} {w w' : World} (h : Below w.heap.size w w') : KeptL S w w' := ⟨h.os, h.tape, h.output, h.size, fun k hk _ => h.block k hk⟩
theorem KeptL.alloc {S : List Nat} {a w : World} (h : KeptL S a w) (o : Obj) : KeptL S a (w.alloc o) := h.trans (KeptL.of_below ((Below.refl _ _).alloc (Nat.le_refl _) o))
theorem KeptL.set {S : List Nat} {a w : World} (h : KeptL S a w) {p : Addr} (hp : p.block ∈ S) (u : Value) : KeptL S a (w.setCell p u) :=
  h.trans ⟨rfl, rfl, rfl, by simp [World.setCell], fun k _ hn => Below.heap_setCell _ _ _ _ (by rintro rfl; exact hn hp)⟩
/-- What is new need not be named. -/
theorem KeptL.fresh {S : List Nat} {k : Nat} {w w' : World} (h : KeptL (k :: S) w w') (hk : w.heap.size ≤ k) : KeptL S w w' :=
  ⟨h.os, h.tape, h.output, h.size, fun i hi hn => h.block i hi (by intro hm; rcases List.mem_cons.1 hm with e | e
                                                                   · omega
                                                                   · exact hn e)⟩
theorem KeptL.of_only {g : Nat} {w w' : World} (h : Only g w w') : KeptL [g] w w' :=
  ⟨(h 0).os, (h 0).tape, (h 0).output, (h 0).size, fun k _ hn => (h (k + 1)).block k (by omega) (by intro e; exact hn (by simp [e]))⟩
theorem KeptL.below {S : List Nat} {B : Nat} {w w' : World} (h : KeptL S w w') (hB : B ≤ w.heap.size) (hS : ∀ k ∈ S, B ≤ k) : Below B w w' :=
  ⟨h.os, h.tape, h.output, h.size, fun k hk => h.block k (by omega) (by intro hm; have := hS k hm; omega)⟩
theorem KeptL.row {S : List Nat} {w w' : World} (h : KeptL S w w') {k : Nat} {t : TypeId} {cs : Array Value} (hr : Row w k t cs) (hk : k ∉ S) : Row w' k t cs := (h.block k hr.lt hk).trans hr
theorem KeptL.row1 {g : Nat} {w w' : World} (h : KeptL [g] w w') {k : Nat} {t t' : TypeId} {cs cs' : Array Value} (hr : Row w k t cs) (hg : Row w g t' cs') (ht : t ≠ t') : Row w' k t cs := h.row hr (by intro e; exact Row.ne hr hg ht (by simpa using e))

/-- A slice in a block of that type, with its room. -/
def Tl (w : World) (t : TypeId) (v : Value) (xs : List Value) : Prop :=
  ∃ (A : Option Addr) (c : Nat), v = .slice A xs.length c ∧ ((A = none → c = 0) ∧ xs.length ≤ c) ∧ (0 < xs.length → ∃ b o cur fr, A = some ⟨b, o, none⟩ ∧ w.heap[b]? = some (.cells cur t fr) ∧ ∀ j u, xs[j]? = some u → cur[o + j]? = some u)

theorem heap_lt {w : World} {b : Nat} {o : Obj} (h : w.heap[b]? = some o) : b < w.heap.size := by
  rcases Nat.lt_or_ge b w.heap.size with c | c
  · exact c
  · rw [Array.getElem?_eq_none c] at h; cases h

theorem Tl.rd {w : World} {t : TypeId} {v : Value} {xs : List Value} (h : Tl w t v xs) : Rd w w.heap.size v xs := by
  obtain ⟨A, c, hv, h0, hx⟩ := h
  refine ⟨A, c, hv, h0, fun hp => ?_⟩
  obtain ⟨b, o, cur, fr, hA, hh, hc⟩ := hx hp
  exact ⟨b, o, hA, heap_lt hh, fun j u hu => by simp [World.cell?, hh, hc j u hu]⟩

/-- The blocks of 'S' are of other types than 't'. -/
def Other (w : World) (t : TypeId) (S : List Nat) : Prop := ∀ k ∈ S, ∃ t' cs, t ≠ t' ∧ Row w k t' cs

theorem Other.one {w : World} {t t' : TypeId} {g : Nat} {cs : Array Value} (h : Row w g t' cs) (ht : t ≠ t') : Other w t [g] := by
  intro k hk; rw [List.mem_singleton] at hk; subst hk; exact ⟨t', cs, ht, h⟩
theorem Other.two {w : World} {t t' t'' : TypeId} {g g' : Nat} {cs cs' : Array Value} (h : Row w g t' cs) (ht : t ≠ t') (h' : Row w g' t'' cs') (ht' : t ≠ t'') : Other w t [g, g'] := by
  intro k hk
  rcases List.mem_cons.1 hk with e | e
  · subst e; exact ⟨t', cs, ht, h⟩
  · rw [List.mem_singleton] at e; subst e; exact ⟨t'', cs', ht', h'⟩

theorem Other.ne {w : World} {t : TypeId} {S : List Nat} (h : Other w t S) {b : Nat} {cur : Array Value} {fr : Nat × Nat} (hb : w.heap[b]? = some (.cells cur t fr)) : b ∉ S := by
  intro hm
  obtain ⟨t', cs, ht, hr⟩ := h b hm
  unfold Row at hr
  rw [hb] at hr
  injection hr with hr
  injection hr with _ hr
  exact ht hr

theorem Tl.kept {w w' : World} {t : TypeId} {v : Value} {xs : List Value} {S : List Nat} (h : Tl w t v xs) (hk : KeptL S w w') (ho : Other w t S) : Tl w' t v xs := by
  obtain ⟨A, c, hv, h0, hx⟩ := h
  refine ⟨A, c, hv, h0, fun hp => ?_⟩
  obtain ⟨b, o, cur, fr, hA, hh, hc⟩ := hx hp
  exact ⟨b, o, cur, fr, hA, (hk.block b (heap_lt hh) (ho.ne hh)).trans hh, hc⟩

theorem Tl.nil (w : World) (t : TypeId) : Tl w t (.slice none 0 0) [] := ⟨none, 0, rfl, ⟨fun _ => rfl, Nat.le_refl _⟩, fun (h : 0 < ([] : List Value).length) => absurd h (by simp)⟩

/-- A block that is known, from its head on. -/
theorem Tl.row {w : World} {g : Nat} {t : TypeId} {cs : Array Value} {xs : List Value} (n : Nat) (h : Row w g t cs) (hn : xs.length = n) (hc : ∀ (j : Nat) (u : Value), xs[j]? = some u → cs[j]? = some u) : Tl w t (.slice (some ⟨g, 0, none⟩) n n) xs := by
  subst hn
  exact ⟨_, _, rfl, ⟨(fun h => by cases h), Nat.le_refl _⟩, fun _ => ⟨g, 0, cs, (0, 0), rfl, h, fun j u hu => by rw [Nat.zero_add]; exact hc j u hu⟩⟩

/-- The program's reader. -/
def RS (w : World) (B g : Nat) (s : St) : Prop :=
  match s with
  | none => Rr w B g [] 0 true
  | some l => ∃ q rd, Rr w B g q rd false ∧ rd ≤ 8 * q.length ∧ q.length ≤ 4000 ∧ (∀ x ∈ q, x < 256) ∧ l = (upto q q.length).drop rd

theorem Rr.keptL {w w' : World} {B g : Nat} {q : List Nat} {rd : Nat} {fl : Bool} {S : List Nat} (h : Rr w B g q rd fl) (hk : KeptL S w w') (h5 : Other w 5 S) (hg : g ∉ S) : Rr w' B g q rd fl := by
  obtain ⟨v, hr, h1, h2⟩ := h
  refine ⟨v, hk.row hr hg, h1, ?_⟩
  rcases h2 with h2 | ⟨r, cap, cur, rfl, hb, hh, rest⟩
  · exact Or.inl h2
  · exact Or.inr ⟨r, cap, cur, rfl, hb, (hk.block r (heap_lt hh) (h5.ne hh)).trans hh, rest⟩

theorem RS.keptL {w w' : World} {B g : Nat} {s : St} {S : List Nat} (h : RS w B g s) (hk : KeptL S w w') (h5 : Other w 5 S) (hg : g ∉ S) : RS w' B g s := by
  cases s with
  | none => exact Rr.keptL h hk h5 hg
  | some l => obtain ⟨q, rd, hr, rest⟩ := h; exact ⟨q, rd, hr.keptL hk h5 hg, rest⟩

theorem RS.fresh {w w' : World} {B g : Nat} {s : St} (h : RS w B g s) (hb : Below w.heap.size w w') : RS w' B g s := h.keptL (KeptL.of_below (S := []) hb) (by intro k hk; simp at hk) (by simp)

theorem RS.row {w : World} {B g : Nat} {s : St} (h : RS w B g s) : ∃ cs, Row w g 99 cs := by
  cases s with
  | none => obtain ⟨v, hr, _⟩ := h; exact ⟨_, hr⟩
  | some l => obtain ⟨q, rd, ⟨v, hr, _⟩, _⟩ := h; exact ⟨_, hr⟩

/-- A store into a block of another type. -/
theorem RS.set {w : World} {B g k i : Nat} {s : St} {t : TypeId} {cs : Array Value} (h : RS w B g s) (hr : Row w k t cs) (h5 : (5 : TypeId) ≠ t) (h9 : t ≠ 99) (u : Value) : RS (w.setCell ⟨k, i, none⟩ u) B g s := by
  obtain ⟨cs', hg⟩ := h.row
  exact h.keptL ((KeptL.refl [k] w).set (by simp) u) (Other.one hr h5) (by intro e; exact Row.ne hr hg h9 (List.mem_singleton.1 e).symm)

theorem hor_rem (q : List Nat) (rd i : Nat) (h : rd + i ≤ 8 * q.length) : hor ((upto q q.length).drop rd) 0 i = numTo q rd i := by
  induction i with
  | zero => rfl
  | succ i ih =>
    show 2 * hor _ 0 i + (get _ (0 + i)).toNat = 2 * numTo q rd i + (bitQ q (rd + i)).toNat
    rw [ih (by omega)]
    have : get ((upto q q.length).drop rd) (0 + i) = bitQ q (rd + i) := by
      rw [← get_upto q q.length (rd + i) (by omega)]
      unfold get
      simp [List.getD]
    rw [this]

theorem rget_any (w : World) (B g : Nat) (s : St) (W : Nat) (width : Int) (h : RS w B g s) (hw : width = (W : Int)) (h0 : 0 < W) (h64 : W ≤ 64) :
    Calls Try.prog 57 #[.pointer (some ⟨g, 0, none⟩), .int .i64 width] w fun e w' => e = .returned (.int .u64 ((tget W s).1 : Int)) ∧ RS w' B g (tget W s).2 ∧ KeptL [g] w w' := by
  subst hw
  have hm : min (max (W : Int) 0) 64 = (W : Int) := by omega
  cases s with
  | none =>
    refine (get_short w B g [] 0 true (W : Int) h (by simp) (by simp) (by rw [hm]; simp; omega)).mono ?_
    rintro e w' ⟨rfl, h1, h2⟩
    exact ⟨rfl, h1, KeptL.of_only h2⟩
  | some l =>
    obtain ⟨q, rd, hr, h1, h2, h3, rfl⟩ := h
    have hlen : ((upto q q.length).drop rd).length = 8 * q.length - rd := by rw [List.length_drop, upto_length]
    by_cases hs : 8 * q.length - rd < W
    · rw [tget_short (by rw [hlen]; exact hs)]
      refine (get_short w B g q rd false (W : Int) hr (by omega) h1 (by rw [hm]; omega)).mono ?_
      rintro e w' ⟨rfl, k1, k2⟩
      exact ⟨rfl, k1, KeptL.of_only k2⟩
    · rw [tget_long (by rw [hlen]; omega)]
      have hc := get_long w B g q rd false (W : Int) hr h3 (by omega) h1 (by rw [hm]; omega)
      rw [clamp_nat W h64] at hc
      refine hc.mono ?_
      rintro e w' ⟨rfl, k1, k2⟩
      refine ⟨by rw [hor_rem q rd W (by omega)], ⟨q, rd + W, k1, by omega, h2, h3, by rw [List.drop_drop]⟩, KeptL.of_only k2⟩

/-- What reading one thing leaves. -/
def Got {α : Type} (B g : Nat) (p : α × St) (R : World → Value → α → Prop) (w : World) (e : Ending) (w' : World) : Prop :=
  ∃ v, e = .returned v ∧ R w' v p.1 ∧ RS w' B g p.2 ∧ KeptL [g] w w'

def IsInt (_ : World) (v : Value) (n : Int) : Prop := v = .int .i64 n
def IsNode (_ : World) (v : Value) (z : Int × Int) : Prop := ∃ x y, v = .complex .f64 x y ∧ Fl 0 x z.1 ∧ Fl 0 y z.2

theorem i64_small (n : Nat) (h : n < 4294967296) : IntKind.i64.wrap (n : Int) = (n : Int) := IntWalk.i64_in _ (by omega)

theorem i32_sgn (n : Nat) (h : n < 4294967296) : wrap32 (n : Int) = sgn n := by
  unfold sgn wrap32
  split <;> omega

theorem read_int (w : World) (B g br : Nat) (s : St) (h : RS w B g s) (hb : Row w br 72 #[.pointer (some ⟨g, 0, none⟩)]) :
    Calls Try.prog 85 #[.pointer (some ⟨br, 0, none⟩)] w (Got B g (tint s) IsInt w) := by
  have h0 := hb.cell 0
  simp only [List.getElem?_toArray, List.getElem?_cons_zero] at h0
  have H := Lib.hid h
  clear h hb
  go_enter Try.func85, Try.ntmps85
  go_wp2_with fail
  refine (rget_any w B g s 8 8 H.out rfl (by omega) (by omega)).mono ?_
  rintro e w1 ⟨rfl, h1, h2⟩
  have hlt := tget_lt 8 s
  have H2 : Hid (RS w1 B g (tint s).2 ∧ KeptL [g] w w1 ∧ (tint s).1 = ((tget 8 s).1 : Int)) := ⟨h1, h2, rfl⟩
  clear h1 h2
  generalize (tget 8 s).1 = n at *
  go_wp2_with fail
  go_ret
  exact ⟨_, rfl, by unfold IsInt; rw [H2.out.2.2]; rfl, H2.out.1, H2.out.2.1⟩

theorem getSigned_any (w : World) (B g : Nat) (s : St) (h : RS w B g s) :
    Calls Try.prog 60 #[.pointer (some ⟨g, 0, none⟩)] w fun e w' => ∃ x, e = .returned (.float .f64 x) ∧ Fl 0 x (sgn (tget 32 s).1) ∧ RS w' B g (tget 32 s).2 ∧ KeptL [g] w w' := by
  have H := Lib.hid h
  clear h
  go_enter Try.func60, Try.ntmps60
  go_wp2_with fail
  refine (rget_any w B g s 32 32 H.out rfl (by omega) (by omega)).mono ?_
  rintro e w1 ⟨rfl, h1, h2⟩
  have hlt := tget_lt 32 s
  have HS := Lib.hid (i32_sgn (tget 32 s).1 (by omega))
  have HF : Hid (Fl 0 (floatOfInt .f64 (sgn (tget 32 s).1)) (sgn (tget 32 s).1)) := fl_ofInt _ (by unfold sgn; split <;> omega)
  have H2 : Hid (RS w1 B g (tget 32 s).2 ∧ KeptL [g] w w1) := ⟨h1, h2⟩
  clear h1 h2
  obtain ⟨n, hn⟩ : ∃ n, (tget 32 s).1 = n := ⟨_, rfl⟩
  rw [hn] at hlt HS ⊢
  have HN := Lib.hid hn; clear hn
  go_wp2_with fail
  rw [HS.out]
  go_ret
  exact ⟨_, rfl, by have := HF.out; rw [HN.out] at this ⊢; exact this, H2.out⟩

theorem read_node (w : World) (B g br : Nat) (s : St) (h : RS w B g s) (hb : Row w br 72 #[.pointer (some ⟨g, 0, none⟩)]) :
    Calls Try.prog 59 #[.pointer (some ⟨br, 0, none⟩)] w (Got B g (tnode s) IsNode w) := by
  have h0 := hb.cell 0
  simp only [List.getElem?_toArray, List.getElem?_cons_zero] at h0
  have H := Lib.hid h; have HB := Lib.hid hb
  clear h hb
  go_enter Try.func59, Try.ntmps59
  go_wp2_with fail
  refine (getSigned_any w B g s H.out).mono ?_
  rintro e w1 ⟨x, rfl, fx, h1, k1⟩
  obtain ⟨cs, hg⟩ := H.out.row
  have hb1 := k1.row1 HB.out hg (by decide)
  have g0 := hb1.cell 0
  simp only [List.getElem?_toArray, List.getElem?_cons_zero] at g0
  have H1 : Hid (Fl 0 x (sgn (tget 32 s).1) ∧ RS w1 B g (tget 32 s).2 ∧ KeptL [g] w w1) := ⟨fx, h1, k1⟩
  clear h0 hb1 hg fx h1 k1
  go_wp2_with fail
  refine (getSigned_any w1 B g _ H1.out.2.1).mono ?_
  rintro e w2 ⟨y, rfl, fy, h2, k2⟩
  have H2 : Hid (Fl 0 y (sgn (tget 32 (tget 32 s).2).1) ∧ RS w2 B g (tget 32 (tget 32 s).2).2 ∧ KeptL [g] w w2) := ⟨fy, h2, H1.out.2.2.trans k2⟩
  clear fy h2 k2 g0
  go_wp2_with fail
  go_ret
  exact ⟨_, rfl, ⟨x, y, rfl, H1.out.1, H2.out.1⟩, H2.out.2.1, H2.out.2.2⟩

end Go.Proofs.Ythpfhcelmddjlaa
