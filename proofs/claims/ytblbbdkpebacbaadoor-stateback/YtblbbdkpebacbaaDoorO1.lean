/- Views by value and in memory; whose each part is. -/
import Derived.Test.YtblbbdkpebacbaaDoorNB
import Derived.Test.YtblbbdkpebacbaaDoorM1
import Derived.Test.YtblbbdkpebacbaaDoorBMath
namespace Go.Proofs.YtblbbdkpebacbaaDoor
open Go.RowKit Fl
set_option maxRecDepth 100000

theorem besideL_in {L : Lay} {p b : Int} (h : b ∈ besideL L p) : ∃ k : Nat, b = (k : Int) ∧ k < L.parts.length := by
  unfold besideL at h
  split at h
  · rw [riseL_mem] at h
    unfold besTo partsOf otherP at h
    simp only [List.mem_flatMap, List.mem_filter, List.mem_map, Bool.and_eq_true, decide_eq_true_eq] at h
    obtain ⟨s, hs, ⟨n, hn, e⟩, h1, h2⟩ := h
    rw [← e] at h2 ⊢
    unfold partL at h2 ⊢
    cases e2 : L.parts.findIdx? (fun p => p.contains n) with
    | none => rw [e2] at h2; simp at h2
    | some i =>
      rw [List.findIdx?_eq_some_iff_getElem] at e2
      exact ⟨i, rfl, e2.1⟩
  · simp at h
theorem besideL_len {L : Lay} (hL : Fits L) (p : Int) : (besideL L p).length ≤ 100000 := by
  unfold besideL
  split
  · refine Nat.le_trans (riseL_le _) (Nat.le_trans (besTo_le _ _ _) ?_)
    have : (L.parts.getD p.toNat []).length ≤ 100 := by
      rw [List.getD_eq_getElem?_getD]
      cases e : L.parts[p.toNat]? with
      | none => simp
      | some x => exact hL.r x (List.mem_of_getElem? e)
    omega
  · simp

/-- A view by value. -/
abbrev Vw := Int × Bool × List Int
def noV : Vw := (0, false, [])
def findV (xs : List Vw) (id : Int) : Option Vw := xs.find? (fun v => decide (v.1 = id))
def findI (xs : List Vw) (id : Int) : Int := match xs.findIdx? (fun v => decide (v.1 = id)) with
  | some i => (i : Int)
  | none => -1
theorem findI_at {xs : List Vw} {n : Int} {i : Nat} (hi : i < xs.length) (h : xs[i].1 = n) (hb : ∀ j (hj : j < xs.length), j < i → xs[j].1 ≠ n) : findI xs n = (i : Int) := by
  unfold findI
  have e : xs.findIdx? (fun p => decide (p.1 = n)) = some i := by
    rw [List.findIdx?_eq_some_iff_getElem]
    exact ⟨hi, by simpa using h, fun j hj => by simpa using hb j (by omega) hj⟩
  rw [e]
theorem findI_none {xs : List Vw} {n : Int} (hb : ∀ j (hj : j < xs.length), xs[j].1 ≠ n) : findI xs n = -1 := by
  unfold findI
  have e : xs.findIdx? (fun p => decide (p.1 = n)) = none := by
    rw [List.findIdx?_eq_none_iff]
    intro x hx
    obtain ⟨j, hj, rfl⟩ := List.getElem_of_mem hx
    simpa using hb j hj
  rw [e]
theorem findV_at {xs : List Vw} {n : Int} {i : Nat} (hi : i < xs.length) (h : xs[i].1 = n) (hb : ∀ j (hj : j < xs.length), j < i → xs[j].1 ≠ n) : findV xs n = some xs[i] := by
  unfold findV
  rw [List.find?_eq_some_iff_getElem]
  exact ⟨by simpa using h, i, hi, rfl, fun j hj => by simpa using hb j (by omega) hj⟩
theorem findV_none {xs : List Vw} {n : Int} (hb : ∀ j (hj : j < xs.length), xs[j].1 ≠ n) : findV xs n = none := by
  unfold findV
  rw [List.find?_eq_none]
  intro x hx
  obtain ⟨j, hj, rfl⟩ := List.getElem_of_mem hx
  simpa using hb j hj
theorem findI_cases (xs : List Vw) (n : Int) : (∃ i, ∃ hi : i < xs.length, findI xs n = (i : Int) ∧ findV xs n = some xs[i]) ∨ (findI xs n = -1 ∧ findV xs n = none) := by
  cases e : xs.findIdx? (fun p => decide (p.1 = n)) with
  | none =>
    right
    have hb : ∀ j (hj : j < xs.length), xs[j].1 ≠ n := fun j hj => by
      rw [List.findIdx?_eq_none_iff] at e
      simpa using e xs[j] (List.getElem_mem hj)
    exact ⟨findI_none hb, findV_none hb⟩
  | some i =>
    left
    rw [List.findIdx?_eq_some_iff_getElem] at e
    obtain ⟨hi, h, hb⟩ := e
    have h' : xs[i].1 = n := by simpa using h
    have hb' : ∀ j (hj : j < xs.length), j < i → xs[j].1 ≠ n := fun j hj hji => by simpa using hb j hji
    exact ⟨i, hi, findI_at hi h' hb', findV_at hi h' hb'⟩

/-- Whose two parts are, looked at as one. -/
def togO (a b : Int) : Int := if a = -2 then b else if b = -2 ∨ a = b then a else -1
def foldO (was : List Int) (a : Int) (bs : List Int) : Int := bs.foldl (fun a o => togO a (was.getD o.toNat 0)) a
def whoO (L : Lay) (was : List Int) (p : Nat) : Int := foldO was (was.getD p 0) (besideL L (p : Int))
def sureB (v : Vw) (sec : List Int) : Bool := v.2.1 && meetsB v.2.2 sec
def holdsB (xs : List Vw) (sec : List Int) (id : Int) : Bool := match findV xs id with
  | none => false
  | some v => sureB v sec
def partO (L : Lay) (was : List Int) (clr : List Bool) (xs : List Vw) (p : Nat) : Int :=
  if clr.getD p false = true then -2 else if 0 ≤ whoO L was p ∧ holdsB xs (L.parts.getD p []) (whoO L was p) = true then whoO L was p else -1
def nextO (L : Lay) (was : List Int) (clr : List Bool) (xs : List Vw) : List Int := (List.range L.parts.length).map (partO L was clr xs)

theorem nextO_len (L : Lay) (was : List Int) (clr : List Bool) (xs : List Vw) : (nextO L was clr xs).length = L.parts.length := by simp [nextO]
theorem nextO_get {L : Lay} {was : List Int} {clr : List Bool} {xs : List Vw} {p : Nat} (h : p < (nextO L was clr xs).length) : (nextO L was clr xs)[p] = partO L was clr xs p := by simp [nextO]

/-- What the owners of lists may be. -/
def OkO (was : List Int) : Prop := ∀ x ∈ was, -2 ≤ x ∧ x ≤ 4611686018427387904
theorem OkO.getD {was : List Int} (h : OkO was) (i : Nat) : -2 ≤ was.getD i 0 ∧ was.getD i 0 ≤ 4611686018427387904 := by
  rw [List.getD_eq_getElem?_getD]
  cases e : was[i]? with
  | none => simp
  | some x => exact h x (List.mem_of_getElem? e)
theorem togO_ok {a b : Int} (ha : -2 ≤ a ∧ a ≤ 4611686018427387904) (hb : -2 ≤ b ∧ b ≤ 4611686018427387904) : -2 ≤ togO a b ∧ togO a b ≤ 4611686018427387904 := by
  unfold togO; split
  · exact hb
  · split
    · exact ha
    · omega
theorem foldO_ok {was : List Int} (h : OkO was) : ∀ (bs : List Int) (a : Int), (-2 ≤ a ∧ a ≤ 4611686018427387904) → -2 ≤ foldO was a bs ∧ foldO was a bs ≤ 4611686018427387904
  | [], _, ha => ha
  | b :: r, a, ha => foldO_ok h r (togO a (was.getD b.toNat 0)) (togO_ok ha (h.getD _))
theorem whoO_ok {L : Lay} {was : List Int} (h : OkO was) (p : Nat) : -2 ≤ whoO L was p ∧ whoO L was p ≤ 4611686018427387904 := foldO_ok h _ _ (h.getD _)
theorem partO_ok {L : Lay} {was : List Int} {clr : List Bool} {xs : List Vw} (h : OkO was) (p : Nat) : -2 ≤ partO L was clr xs p ∧ partO L was clr xs p ≤ 4611686018427387904 := by
  unfold partO; split
  · omega
  · split
    · exact whoO_ok h p
    · omega
theorem nextO_ok {L : Lay} {was : List Int} {clr : List Bool} {xs : List Vw} (h : OkO was) : OkO (nextO L was clr xs) := by
  intro x hx
  obtain ⟨p, hp, rfl⟩ := List.getElem_of_mem hx
  rw [nextO_get]
  exact partO_ok h p
theorem foldO_snoc (was : List Int) (a : Int) (bs : List Int) (i : Nat) (h : i < bs.length) : foldO was a (bs.take (i + 1)) = togO (foldO was a (bs.take i)) (was.getD bs[i].toNat 0) := by
  unfold foldO
  rw [List.take_succ_eq_append_getElem h, List.foldl_append]; rfl
theorem foldO_one (was : List Int) : ∀ bs : List Int, foldO was (-1) bs = -1
  | [] => rfl
  | b :: r => by
    have e : togO (-1) (was.getD b.toNat 0) = -1 := by unfold togO; simp
    show foldO was (togO (-1) (was.getD b.toNat 0)) r = -1
    rw [e]; exact foldO_one was r
theorem foldO_app (was : List Int) (a : Int) (xs ys : List Int) : foldO was a (xs ++ ys) = foldO was (foldO was a xs) ys := by unfold foldO; rw [List.foldl_append]

/-- Views in memory. -/
def vcells (xs : List (Int × Bool × Value)) : List Value := xs.flatMap fun s => [.int .i64 s.1, .bool s.2.1, s.2.2]
theorem vcells_len (xs : List (Int × Bool × Value)) : (vcells xs).length = xs.length * 3 := by
  induction xs with
  | nil => rfl
  | cons a r ih => simp [vcells] at ih ⊢; omega
theorem vcells_app (xs ys : List (Int × Bool × Value)) : vcells xs ++ vcells ys = vcells (xs ++ ys) := by simp [vcells]
theorem vcells_get (xs : List (Int × Bool × Value)) : ∀ j (h : j < xs.length), (vcells xs)[j * 3]? = some (.int .i64 xs[j].1) ∧ (vcells xs)[j * 3 + 1]? = some (.bool xs[j].2.1) ∧ (vcells xs)[j * 3 + 2]? = some xs[j].2.2 := by
  induction xs with
  | nil => intro j h; simp at h
  | cons a r ih =>
    intro j h
    have e : vcells (a :: r) = .int .i64 a.1 :: .bool a.2.1 :: a.2.2 :: vcells r := by simp [vcells]
    cases j with
    | zero => rw [e]; simp
    | succ j =>
      rw [e]
      obtain ⟨h1, h2, h3⟩ := ih j (by simpa using h)
      rw [show (j + 1) * 3 = j * 3 + 1 + 1 + 1 by omega]
      simp only [List.getElem?_cons_succ, List.getElem_cons_succ]
      exact ⟨h1, h2, h3⟩

/-- A slice of views, in blocks below 'D'. -/
def Vws (w : World) (D : Nat) (v : Value) (xs : List Vw) : Prop :=
  ∃ (A : Option Addr) (c : Nat) (vs : List Value), v = .slice A xs.length c ∧ vs.length = xs.length ∧ (∀ i (h1 : i < vs.length) (h2 : i < xs.length), Rd w D vs[i] (ivals xs[i].2.2)) ∧
    (0 < xs.length → ∃ b o, A = some ⟨b, o, none⟩ ∧ b < D ∧ ∀ j (h : j < xs.length) (h1 : j < vs.length), w.cell? ⟨b, o + j * 3, none⟩ = some (.int .i64 xs[j].1) ∧ w.cell? ⟨b, o + j * 3 + 1, none⟩ = some (.bool xs[j].2.1) ∧ w.cell? ⟨b, o + j * 3 + 2, none⟩ = some vs[j])

theorem Vws.mono {w w' : World} {D D' : Nat} {v : Value} {xs : List Vw} (h : Vws w D v xs) (hD : D ≤ D') (hc : ∀ p : Addr, p.block < D → w'.cell? p = w.cell? p) : Vws w' D' v xs := by
  obtain ⟨A, c, vs, hv, hl, hr, hx⟩ := h
  refine ⟨A, c, vs, hv, hl, fun i h1 h2 => (hr i h1 h2).mono hD hc, fun hp => ?_⟩
  obtain ⟨b, o, hA, hb, hcell⟩ := hx hp
  exact ⟨b, o, hA, by omega, fun j hj h1 => ⟨(hc _ hb).trans (hcell j hj h1).1, (hc _ hb).trans (hcell j hj h1).2.1, (hc _ hb).trans (hcell j hj h1).2.2⟩⟩
theorem Vws.below {w w' : World} {B C : Nat} {v : Value} {xs : List Vw} (h : Vws w B v xs) (hb : Below C w w') (hC : B ≤ C) : Vws w' B v xs :=
  h.mono (Nat.le_refl _) fun _ hp => hb.cell (by omega)
theorem Vws.up {w w' : World} {v : Value} {xs : List Vw} (h : Vws w w.heap.size v xs) (hb : Below w.heap.size w w') : Vws w' w'.heap.size v xs := h.mono hb.size fun _ hp => hb.cell hp
theorem Vws.nil (w : World) (D : Nat) : Vws w D (.slice none 0 0) [] := ⟨none, 0, [], rfl, rfl, fun i h => absurd h (by simp), fun h => absurd h (by simp)⟩
/-- One view of a slice. -/
theorem Vws.at {w : World} {D n c : Nat} {A : Option Addr} {xs : List Vw} (h : Vws w D (.slice A n c) xs) (j : Nat) (hj : j < xs.length) : ∃ b o A1 c1, A = some ⟨b, o, none⟩ ∧ b < D ∧ w.cell? ⟨b, o + j * 3, none⟩ = some (.int .i64 xs[j].1) ∧ w.cell? ⟨b, o + j * 3 + 1, none⟩ = some (.bool xs[j].2.1) ∧ w.cell? ⟨b, o + j * 3 + 2, none⟩ = some (.slice A1 xs[j].2.2.length c1) ∧ Rd w D (.slice A1 xs[j].2.2.length c1) (ivals xs[j].2.2) := by
  obtain ⟨A', c', vs, hv, hl, hr, hx⟩ := h
  injection hv with e1 e2 e3
  subst e1 e3
  obtain ⟨b, o, hA, hb, hc⟩ := hx (by omega)
  have h1 : j < vs.length := by omega
  obtain ⟨c1, c2, c3⟩ := hc j hj h1
  have hrj := hr j h1 hj
  obtain ⟨A1, cc, e, h0, hxx⟩ := hrj
  rw [e] at c3
  have hil : (ivals xs[j].2.2).length = xs[j].2.2.length := by simp [ivals]
  rw [hil] at c3
  refine ⟨b, o, A1, cc, hA, hb, c1, c2, c3, A1, cc, by rw [hil], h0, hxx⟩

/-- What Find answers. -/
def RetFind (D : Nat) (r : Option Vw) (w : World) (e : Ending) (w' : World) : Prop :=
  ∃ A c, e = .returned (.tuple #[.agg #[.int .i64 (r.getD noV).1, .bool (r.getD noV).2.1, .slice A (r.getD noV).2.2.length c], .bool r.isSome]) ∧ Rd w' D (.slice A (r.getD noV).2.2.length c) (ivals (r.getD noV).2.2) ∧ Below w.heap.size w w'

/-- Not too many views. -/
structure OkV (xs : List Vw) : Prop where
  len : xs.length ≤ 100
  span : ∀ v ∈ xs, v.2.2.length ≤ 1000 ∧ Wf v.2.2
end Go.Proofs.YtblbbdkpebacbaaDoor
