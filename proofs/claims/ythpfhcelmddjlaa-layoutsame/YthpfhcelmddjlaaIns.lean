/- Contracts: the document's reader, and a place's part. -/
import Derived.Test.YthpfhcelmddjlaaDecode
namespace Go.Proofs.Ythpfhcelmddjlaa
open Go.RowKit Fl
set_option maxRecDepth 100000

/-- The document's reader: what isn't read yet. -/
def IS (w : World) (b0 g : Nat) (s : St) : Prop :=
  match s with
  | none => InS w b0 g [] true
  | some l => InS w b0 g l false ∧ l.length ≤ 100000

theorem iget_any (w : World) (b0 g : Nat) (s : St) (W : Nat) (width : Int) (h : IS w b0 g s) (hbg : b0 ≠ g) (hw : width = (W : Int)) (h0 : 0 < W) (h64 : W ≤ 64) :
    Calls Try.prog 74 #[.pointer (some ⟨g, 0, none⟩), .int .i64 width] w fun e w' => e = .returned (.int .u64 ((tget W s).1 : Int)) ∧ IS w' b0 g (tget W s).2 ∧ KeptL [g] w w' := by
  subst hw
  cases s with
  | none =>
    refine (inGet_fail w b0 g [] true (W : Int) h (Or.inl rfl) (by simp)).mono ?_
    rintro e w' ⟨rfl, h1, h2⟩
    exact ⟨rfl, h1, KeptL.of_only h2⟩
  | some l =>
    obtain ⟨hi, hl⟩ := h
    by_cases hs : l.length < W
    · rw [tget_short hs]
      refine (inGet_fail w b0 g l false (W : Int) hi (Or.inr (by omega)) hl).mono ?_
      rintro e w' ⟨rfl, h1, h2⟩
      exact ⟨rfl, h1, KeptL.of_only h2⟩
    · rw [tget_long (by omega)]
      refine (inGet_in w b0 g l W hi (by omega) h64 hl hbg).mono ?_
      rintro e w' ⟨rfl, h1, h2⟩
      exact ⟨rfl, ⟨h1, by rw [List.length_drop]; omega⟩, KeptL.of_only h2⟩

theorem cell_block {w : World} {a : Addr} {v : Value} (h : w.cell? a = some v) : a.block < w.heap.size := by
  rcases Nat.lt_or_ge a.block w.heap.size with c | c
  · exact c
  · have := Array.getElem?_eq_none c
    simp [World.cell?, this] at h

theorem InS.keptL {w w' : World} {b0 g : Nat} {l : List Bool} {fl : Bool} {S : List Nat} (h : InS w b0 g l fl) (hk : KeptL S w w') (hg : g ∉ S) (hb : b0 ∉ S) : InS w' b0 g l fl := by
  obtain ⟨A, c, hr, hl, hx⟩ := h
  refine ⟨A, c, hk.row hr hg, hl, fun hp => ?_⟩
  obtain ⟨o, hA, hc⟩ := hx hp
  refine ⟨o, hA, fun j hj => ?_⟩
  have hcj := hc j hj
  have hlt := cell_block hcj
  exact (World.cell?_of_block (hk.block b0 hlt hb)).trans hcj

theorem IS.keptL {w w' : World} {b0 g : Nat} {s : St} {S : List Nat} (h : IS w b0 g s) (hk : KeptL S w w') (hg : g ∉ S) (hb : b0 ∉ S) : IS w' b0 g s := by
  cases s with
  | none => exact InS.keptL h hk hg hb
  | some l => exact ⟨h.1.keptL hk hg hb, h.2⟩

theorem IS.row {w : World} {b0 g : Nat} {s : St} (h : IS w b0 g s) : ∃ v, Row w g 119 #[v, .bool s.isNone] := by
  cases s with
  | none => obtain ⟨A, c, hr, _⟩ := h; exact ⟨_, hr⟩
  | some l => obtain ⟨⟨A, c, hr, _⟩, _⟩ := h; exact ⟨_, hr⟩

theorem IS.len {w : World} {b0 g : Nat} {l : List Bool} (h : IS w b0 g (some l)) : ∃ A c, Row w g 119 #[.slice A l.length c, .bool false] := by
  obtain ⟨⟨A, c, hr, _⟩, _⟩ := h; exact ⟨A, c, hr⟩

theorem IS.fresh {w w' : World} {b0 g : Nat} {s : St} (h : IS w b0 g s) (hb : Below w.heap.size w w') : IS w' b0 g s := h.keptL (KeptL.of_below (S := []) hb) (by simp) (by simp)

theorem IS.ne {w : World} {b0 g k : Nat} {s : St} {t : TypeId} {cs : Array Value} (h : IS w b0 g s) (hr : Row w k t cs) (ht : t ≠ 119) : g ≠ k := by
  obtain ⟨v, hg⟩ := h.row
  exact (Row.ne hr hg ht).symm

theorem KeptL.grown {S : List Nat} {a w w' : World} {row : Option Nat} (h : KeptL S a w) (hg : w.grownBy w' row) (hr : ∀ k, row = some k → a.heap.size ≤ k) : KeptL S a w' :=
  ⟨hg.os.trans h.os, hg.tape.trans h.tape, hg.output.trans h.output, Nat.le_trans h.size hg.size, fun i hi hn => (hg.block i (Nat.lt_of_lt_of_le hi h.size) (fun e => by have := hr i e.symm; omega)).trans (h.block i hi hn)⟩

theorem own_keptL {w w' : World} {base : Nat} {e : TypeId} {size n : Nat} {v : Value} {xs : List Value} {S : List Nat} (h : w.ownsRow base e size v n xs) (hk : KeptL S w w') (ho : Other w e S) : w'.ownsRow base e size v n xs := by
  obtain ⟨h1, h2⟩ := h
  refine ⟨h1, ?_⟩
  rcases h2 with h2 | ⟨r, cap, cur, rfl, hb, hh, rest⟩
  · exact Or.inl h2
  · exact Or.inr ⟨r, cap, cur, rfl, hb, (hk.block r (heap_lt hh) (ho.ne hh)).trans hh, rest⟩

theorem Tl.of_own {w : World} {base n : Nat} {e : TypeId} {v : Value} {xs : List Value} (h : w.ownsRow base e 1 v n xs) : Tl w e v xs := by
  have hl : xs.length = n := by simpa using h.1
  rcases h.2 with ⟨rfl, rfl⟩ | ⟨g, cap, cur, rfl, _, hh, hcap, _, _, hcells⟩
  · exact ⟨none, 0, by rw [hl], ⟨fun _ => rfl, by omega⟩, fun hp => by omega⟩
  · refine ⟨some ⟨g, 0, none⟩, cap, by rw [hl], ⟨(fun h => by cases h), by omega⟩, fun _ => ⟨g, 0, cur, (0, 0), rfl, hh, fun j u hu => ?_⟩⟩
    have hj : j < n := by have := (List.getElem?_eq_some_iff.1 hu).1; omega
    have hc := h.cellAt j (by omega)
    rw [hu] at hc
    rw [Nat.zero_add]
    simpa [World.cell?, hh] using hc

theorem own_slice {w : World} {base n : Nat} {e : TypeId} {size : Nat} {v : Value} {xs : List Value} (h : w.ownsRow base e size v n xs) : ∃ A c, v = .slice A n c := by
  rcases h.2 with ⟨rfl, rfl⟩ | ⟨g, cap, cur, rfl, _⟩
  · exact ⟨_, _, rfl⟩
  · exact ⟨_, _, rfl⟩

theorem part_any (n : Nat) (w : World) (h : n < 4294967296) : Calls Try.prog 75 #[.int .u64 (n : Int)] w fun e w' => ∃ x, e = .returned (.float .f64 x) ∧ Fl 0 x (sgn n) ∧ w = w' := by
  by_cases hb : n < 2147483648
  · have HF : Hid (Fl 0 (floatOfInt .f64 (n : Int)) (sgn n)) := by
      have : sgn n = (n : Int) := by unfold sgn; rw [if_pos hb]
      show Fl _ _ _
      rw [this]; exact fl_ofInt _ (by omega)
    have h1 : (n : Int) < 2147483648 := by omega
    have h0 : 0 ≤ (n : Int) := by omega
    generalize sgn n = y at *
    clear hb h
    generalize (n : Int) = z at *
    go_enter Try.func75, Try.ntmps75
    go_wp2
    go_ret
    exact ⟨_, rfl, HF.out, rfl⟩
  · have HF : Hid (Fl 0 (Op.negFloat .f64 (floatOfInt .f64 (4294967296 - (n : Int)))) (sgn n)) := by
      have : sgn n = -(4294967296 - (n : Int)) := by unfold sgn; rw [if_neg hb]; omega
      show Fl _ _ _
      rw [this]; exact fl_neg (fl_ofInt _ (by omega))
    have on : ∀ x w, (Op.unary .neg (.float .f64 x)).run Try.prog w = .ok (.float .f64 (Op.negFloat .f64 x)) w := fun _ _ => rfl
    have h1 : 2147483648 ≤ (n : Int) := by omega
    have h0 : (n : Int) < 4294967296 := by omega
    generalize sgn n = y at *
    clear hb h
    generalize (n : Int) = z at *
    go_enter Try.func75, Try.ntmps75
    go_wp2
    go_ret
    exact ⟨_, rfl, HF.out, rfl⟩

end Go.Proofs.Ythpfhcelmddjlaa
