/- Two filters in one walk; what was said of each part, in memory of its own. -/
import Derived.Test.YtgophlafmobhfaaD7
namespace Go.Proofs.Ytgophlafmobhfaa
open Go.RowKit
set_option maxRecDepth 100000

theorem FS.upd {w0 W W' : World} {B0 g h n : Nat} {c : Nat → Int} {s : Int} (f : FS w0 W B0 g h n c s) {S : List Nat} (hk : KeptL S W W') (hS : ∀ k ∈ S, B0 ≤ k) (hg : g ∉ S) (hh : h ∉ S) : FS w0 W' B0 g h n c s :=
  ⟨Nat.le_trans f.size hk.size, f.below.trans (hk.below f.size hS), f.fi.kept hk hg hh⟩

/-- One filter steps: the other one stays. -/
theorem FS.beside {w0 W W' : World} {B0 g h n g' h' n' : Nat} {c c' : Nat → Int} {s s' : Int} (f : FS w0 W B0 g h n c s) (f' : FS w0 W B0 g' h' n' c' s') (hne : h' ≠ h) (hk : KeptL [h] W W') : FS w0 W' B0 g' h' n' c' s' :=
  f'.upd hk (by intro k hm; rw [List.mem_singleton] at hm; subst hm; exact f.fi.lo.2) (by simpa using f'.fi.row.ne f.fi.cnt (by decide)) (by simpa using hne)

/-- Bytes that came in, handed to a step. -/
theorem Ra.of_rd {w0 W : World} {h : Nat} {v : Value} {raw : List Nat} (r : Rd w0 w0.heap.size v (bvals raw)) (hb : Below w0.heap.size w0 W) (hh : w0.heap.size ≤ h) : Ra W h v raw := by
  obtain ⟨A, c, rfl, h0, hx⟩ := r
  rw [bvals_length] at h0 hx
  refine ⟨A, c, by rw [bvals_length], h0, fun hp => ?_⟩
  obtain ⟨b, o, rfl, hbl, hc⟩ := hx hp
  refine ⟨b, o, rfl, by omega, by have := hb.size; omega, fun j hj => ?_⟩
  rw [hb.cell (p := ⟨b, o + j, none⟩) hbl]
  exact hc j _ (bvals_get raw j hj)

/-- One byte of them. -/
theorem Ra.sub {w0 W : World} {h n c : Nat} {A : Option Addr} {raw : List Nat} (r : Rd w0 w0.heap.size (.slice A n c) (bvals raw)) (hb : Below w0.heap.size w0 W) (hh : w0.heap.size ≤ h) (i : Nat) (hi : i < raw.length) :
    ∃ b o, A = some ⟨b, o, none⟩ ∧ n ≤ c ∧ Ra W h (.slice (some ⟨b, o + i, none⟩) 1 (c - i)) [raw[i]] := by
  obtain ⟨A', c', hv, h0, hx⟩ := r
  rw [bvals_length] at hv h0 hx
  injection hv with e1 e2 e3
  subst e1 e2 e3
  obtain ⟨b, o, rfl, hbl, hc⟩ := hx (by omega)
  refine ⟨b, o, rfl, h0.2, _, c - i, rfl, ⟨fun e => by (cases e), by have := h0.2; simp; omega⟩, fun _ => ⟨b, o + i, rfl, by omega, by have := hb.size; omega, fun j hj => ?_⟩⟩
  simp only [List.length_singleton] at hj
  obtain rfl : j = 0 := by omega
  rw [Nat.add_zero, hb.cell (p := ⟨b, o + i, none⟩) hbl]
  exact hc i _ (bvals_get raw i hi)

/-- What a row of a list of lists is. -/
theorem BRows.row {w : World} {A : Option Addr} {n c : Nat} {rows : List (List Nat)} (h : BRows w w.heap.size (.slice A n c) rows) (i : Nat) (hi : i < rows.length) :
    ∃ b o u, A = some ⟨b, o, none⟩ ∧ b < w.heap.size ∧ w.cell? ⟨b, o + i, none⟩ = some u ∧ Rd w w.heap.size u (bvals rows[i]) := by
  obtain ⟨vs, hv, hl, hr⟩ := h
  have hi2 : i < vs.length := by omega
  obtain ⟨b, o, hA, hb, hc⟩ := hv.at (i := i) (u := vs[i]) (by simp [hi2])
  exact ⟨b, o, vs[i], hA, hb, hc, hr i hi2 hi⟩
theorem BRows.len {w : World} {v : Value} {rows : List (List Nat)} (h : BRows w w.heap.size v rows) : ∃ A c, v = .slice A rows.length c := by
  obtain ⟨vs, ⟨A, c, hv, -⟩, hl, -⟩ := h
  exact ⟨A, c, by rw [hv, hl]⟩

def svals (n : Nat) (b : Nat → Value) : List Value := (List.range n).map b
theorem svals_length (n : Nat) (b : Nat → Value) : (svals n b).length = n := by simp [svals]
theorem svals_get (n : Nat) (b : Nat → Value) (i : Nat) (h : i < n) : (svals n b)[i]? = some (b i) := by simp [svals, h]
theorem svals_set (n : Nat) (c c' : Nat → Value) (i : Nat) (x : Value) (hx : c' i = x) (hc : ∀ j, j ≠ i → c' j = c j) : (svals n c).toArray.setIfInBounds i x = (svals n c').toArray := by
  apply Array.ext'
  simp only [Array.toList_setIfInBounds]
  apply List.ext_getElem?
  intro j
  rw [List.getElem?_set]
  simp only [svals_length]
  by_cases hj : j < n
  · by_cases hij : i = j
    · subst hij; simp [hj, svals, hx]
    · simp [hij, hj, svals, hc j (fun e => hij e.symm)]
  · by_cases hij : i = j
    · subst hij; simp [hj, svals]
    · simp [hij, hj, svals]

/-- What was said of each part, each in a block of its own. -/
structure PS (w : World) (B pb n : Nat) (vs : Nat → Value) (rows : Nat → List Nat) : Prop where
  lo : B ≤ pb
  row : Row w pb 28 (svals n vs).toArray
  own : ∀ k, k < n → w.ownsRow B 5 1 (vs k) (rows k).length (bvals (rows k))
  apart : ∀ i j, i < n → j < n → i ≠ j → ∀ b, (vs i).ownBlock = some b → (vs j).ownBlock ≠ some b

theorem own_keptL {w w' : World} {B : Nat} {t : TypeId} {s n : Nat} {v : Value} {xs : List Value} {S : List Nat} (h : w.ownsRow B t s v n xs) (hk : KeptL S w w') (hS : Other w t S) : w'.ownsRow B t s v n xs := by
  obtain ⟨h1, h2⟩ := h
  refine ⟨h1, ?_⟩
  rcases h2 with h2 | ⟨g, cap, cur, rfl, hg, hh, r⟩
  · exact Or.inl h2
  · exact Or.inr ⟨g, cap, cur, rfl, hg, (hk.block g (heap_lt hh) (hS.ne hh)).trans hh, r⟩

theorem Other.nil (w : World) (t : TypeId) : Other w t [] := fun k h => by simp at h

theorem PS.kept {w w' : World} {B pb n : Nat} {vs : Nat → Value} {rows : Nat → List Nat} (p : PS w B pb n vs rows) {S : List Nat} (hk : KeptL S w w') (hS : Other w 5 S) (hp : pb ∉ S) : PS w' B pb n vs rows :=
  ⟨p.lo, hk.row p.row hp, fun k h => own_keptL (p.own k h) hk hS, p.apart⟩
theorem PS.call {w w' : World} {B pb n : Nat} {vs : Nat → Value} {rows : Nat → List Nat} (p : PS w B pb n vs rows) (hb : Below w.heap.size w w') : PS w' B pb n vs rows :=
  p.kept (S := []) (KeptL.of_below hb) (Other.nil _ _) (by simp)
theorem PS.eq {w : World} {B pb n : Nat} {vs : Nat → Value} {rows rows' : Nat → List Nat} (p : PS w B pb n vs rows) (h : ∀ k, k < n → rows k = rows' k) : PS w B pb n vs rows' :=
  ⟨p.lo, p.row, fun k hk => by rw [← h k hk]; exact p.own k hk, p.apart⟩

theorem PS.start (w : World) (B n : Nat) (hB : B ≤ w.heap.size) : PS (w.alloc (.cells (svals n fun _ => .slice none 0 0).toArray 28)) B w.heap.size n (fun _ => .slice none 0 0) (fun _ => []) :=
  ⟨hB, Row.new _ _ _, fun k _ => World.ownsRow_nil _ _ _ _, fun i j _ _ _ b hb => by simp [Value.ownBlock] at hb⟩

/-- One byte more of one part. -/
theorem PS.push {w w1 : World} {B pb n : Nat} {vs : Nat → Value} {rows rows' : Nat → List Nat} (p : PS w B pb n vs rows) (k : Nat) (hk : k < n) (b : Nat) (v' : Value)
    (hown : w1.ownsRow B 5 1 v' ((rows k).length + 1) (bvals (rows k ++ [b]))) (hg : w.grownBy w1 (vs k).ownBlock) (hl : v'.ownBlock = (vs k).ownBlock ∨ v'.ownBlock = some w.heap.size)
    (hr : rows' k = rows k ++ [b]) (hr2 : ∀ j, j ≠ k → rows' j = rows j) :
    PS (w1.setCell ⟨pb, k, none⟩ v') B pb n (fun j => if j = k then v' else vs j) rows' ∧ KeptL (pb :: (vs k).ownBlock.toList) w (w1.setCell ⟨pb, k, none⟩ v') := by
  have hrow1 : Row w1 pb 28 (svals n vs).toArray := p.row.grown hg (by
    intro e
    obtain ⟨_, h2⟩ := p.own k hk
    rcases h2 with ⟨e2, _⟩ | ⟨g, cap, cur, e2, _, hh, _⟩
    · rw [e2] at e; cases e
    · rw [e2] at e
      have e3 : pb = g := by simpa [Value.ownBlock] using e
      subst e3
      have := p.row
      unfold Row at this
      rw [this] at hh
      injection hh with hh
      injection hh with _ hh _
      exact absurd hh (by decide))
  have hrow2 : Row (w1.setCell ⟨pb, k, none⟩ v') pb 28 (svals n (fun j => if j = k then v' else vs j)).toArray := by
    have := hrow1.set k v'
    rw [svals_set n vs (fun j => if j = k then v' else vs j) k v' (by simp) (fun j hj => by simp [hj])] at this
    exact this
  have far : ∀ (v : Value) (m : Nat) (xs : List Value), w1.ownsRow B 5 1 v m xs → (w1.setCell ⟨pb, k, none⟩ v').ownsRow B 5 1 v m xs := fun v m xs ho =>
    own_far ho (fun e => by
      have := own_ne ho hrow1 (by decide)
      exact this e.symm) _
  refine ⟨⟨p.lo, hrow2, ?_, ?_⟩, ?_⟩
  · intro j hj
    by_cases e : j = k
    · subst e
      simp only [if_true, hr]
      have := far _ _ _ hown
      simpa using this
    · simp only [if_neg e, hr2 j e]
      refine far _ _ _ ((p.own j hj).kept hg ?_)
      cases eb : (vs j).ownBlock with
      | none => exact Or.inl rfl
      | some q => exact Or.inr fun e2 => p.apart j k hj hk e q eb e2.symm
  · intro i j hi hj hij q hq
    by_cases ei : i = k
    · subst ei
      simp only [if_true] at hq
      simp only [if_neg (Ne.symm hij)]
      rcases hl with e | e
      · rw [e] at hq; exact p.apart i j hi hj hij q hq
      · rw [e] at hq
        injection hq with hq
        subst hq
        intro e2
        have := ((p.own j hj).lt _ e2).2
        omega
    · simp only [if_neg ei] at hq
      by_cases ej : j = k
      · subst ej
        simp only [if_true]
        rcases hl with e | e
        · rw [e]; exact p.apart i j hi hj hij q hq
        · rw [e]
          intro e2
          injection e2 with e2
          subst e2
          have := ((p.own i hi).lt _ hq).2
          omega
      · simp only [if_neg ej]
        exact p.apart i j hi hj hij q hq
  · have h1 : KeptL (pb :: (vs k).ownBlock.toList) w w1 := (KeptL.of_grown hg).mono (fun q hq => List.mem_cons_of_mem _ hq)
    exact h1.set (by simp) _

/-- What a push leaves of a filter. -/
theorem FS.push {w0 W W' : World} {B0 g h n m pb : Nat} {c : Nat → Int} {s : Int} {vs : Nat → Value} {rows : Nat → List Nat} (f : FS w0 W B0 g h n c s) (p : PS W B0 pb m vs rows) (k : Nat) (hk : k < m) (hK : KeptL (pb :: (vs k).ownBlock.toList) W W') : FS w0 W' B0 g h n c s := by
  refine f.upd hK ?_ ?_ ?_
  · intro q hq
    rcases List.mem_cons.1 hq with e | e
    · subst e; exact p.lo
    · exact ((p.own k hk).lt q (by simpa using e)).1
  · intro hq
    rcases List.mem_cons.1 hq with e | e
    · exact f.fi.row.ne p.row (by decide) e
    · exact own_ne (p.own k hk) f.fi.row (by decide) (by simpa using e : (vs k).ownBlock = some g).symm
  · intro hq
    rcases List.mem_cons.1 hq with e | e
    · exact f.fi.cnt.ne p.row (by decide) e
    · exact own_ne (p.own k hk) f.fi.cnt (by decide) (by simpa using e : (vs k).ownBlock = some h).symm

def hist (said : List (List Nat)) (i k : Nat) : List Nat := (said.take i).map fun r => r.getD k 9
def mixH (said : List (List Nat)) (i k j : Nat) : List Nat := if j < k then hist said (i + 1) j else hist said i j
theorem hist_zero (said : List (List Nat)) (k : Nat) : hist said 0 k = [] := by simp [hist]
theorem hist_succ (said : List (List Nat)) (i k : Nat) (h : i < said.length) : hist said (i + 1) k = hist said i k ++ [said[i].getD k 9] := by
  unfold hist; rw [List.take_succ_eq_append_getElem h, List.map_append]; rfl
theorem hist_len (said : List (List Nat)) (i k : Nat) : (hist said i k).length ≤ said.length := by unfold hist; simp; omega
theorem hist_cnt (said : List (List Nat)) (i k : Nat) (h : i < said.length) (c : Nat → Int) (hc : c k = (cntL (hist said i k) : Int)) : stepC c said[i] k = (cntL (hist said (i + 1) k) : Int) := by
  rw [hist_succ said i k h, cntL_snoc]
  unfold stepC
  rw [hc]; rfl

end Go.Proofs.Ytgophlafmobhfaa
