/- The law's views, by value; what its loop keeps. -/
import Derived.Test.YtblbbdkpebacbaaDoorO9
import Derived.Lib.SmallJoins
namespace Go.Proofs.YtblbbdkpebacbaaDoor
open Go.RowKit Fl
set_option maxRecDepth 100000

def spanS (m : Nat) (acc : List Int) (x : Nat) : List Int := if acc.contains ((x % m : Nat) : Int) = true then acc else acc ++ [((x % m : Nat) : Int)]
def spanO (m : Nat) (l : List Nat) : List Int := l.foldl (spanS m) []
theorem spanO_take (m : Nat) (l : List Nat) (q : Nat) (h : q < l.length) : spanO m (l.take (q + 1)) = spanS m (spanO m (l.take q)) l[q] := by
  unfold spanO; rw [List.take_succ_eq_append_getElem h, List.foldl_append]; rfl
theorem spanS_in {m : Nat} (hm : 0 < m) {acc : List Int} (h : ∀ x ∈ acc, 0 ≤ x ∧ x < (m : Int)) (x : Nat) : (spanS m acc x).length ≤ acc.length + 1 ∧ ∀ y ∈ spanS m acc x, 0 ≤ y ∧ y < (m : Int) := by
  unfold spanS
  split
  · exact ⟨by omega, h⟩
  · refine ⟨by simp, fun y hy => ?_⟩
    rcases List.mem_append.1 hy with e | e
    · exact h y e
    · rw [List.mem_singleton] at e
      have := Nat.mod_lt x hm
      omega
theorem spanO_fold {m : Nat} (hm : 0 < m) : ∀ (l : List Nat) (acc : List Int), (∀ x ∈ acc, 0 ≤ x ∧ x < (m : Int)) → (l.foldl (spanS m) acc).length ≤ acc.length + l.length ∧ ∀ y ∈ l.foldl (spanS m) acc, 0 ≤ y ∧ y < (m : Int)
  | [], acc, h => ⟨by simp, h⟩
  | a :: r, acc, h => by
    have h1 := spanS_in hm h a
    have h2 := spanO_fold hm r (spanS m acc a) h1.2
    simp only [List.foldl_cons, List.length_cons]
    exact ⟨by omega, h2.2⟩
theorem spanO_in {m : Nat} (hm : 0 < m) (l : List Nat) : (spanO m l).length ≤ l.length ∧ ∀ y ∈ spanO m l, 0 ≤ y ∧ y < (m : Int) := by
  have h := spanO_fold hm l [] (by simp)
  simpa [spanO] using h
theorem spanO_wf {m : Nat} (hm : 0 < m) (hm2 : m ≤ 1000) (l : List Nat) : Wf (spanO m l) := by
  refine wf_of fun n hn => ?_
  have := (spanO_in hm l).2 n hn
  omega

def viewsS (m : Nat) (acc : List Vw) (k : Nat × Bool × List Nat) : List Vw := if (findV acc ((k.1 % 4 : Nat) : Int)).isSome = true then acc else acc ++ [(((k.1 % 4 : Nat) : Int), k.2.1, spanO m k.2.2)]
def viewsO (m : Nat) (l : List (Nat × Bool × List Nat)) : List Vw := l.foldl (viewsS m) []
theorem viewsO_take (m : Nat) (l : List (Nat × Bool × List Nat)) (q : Nat) (h : q < l.length) : viewsO m (l.take (q + 1)) = viewsS m (viewsO m (l.take q)) l[q] := by
  unfold viewsO; rw [List.take_succ_eq_append_getElem h, List.foldl_append]; rfl
theorem viewsO_fold (m : Nat) : ∀ (l : List (Nat × Bool × List Nat)) (acc : List Vw), (l.foldl (viewsS m) acc).length ≤ acc.length + l.length ∧ ∀ y ∈ l.foldl (viewsS m) acc, y ∈ acc ∨ ∃ k ∈ l, y = (((k.1 % 4 : Nat) : Int), k.2.1, spanO m k.2.2)
  | [], acc => ⟨by simp, fun y hy => Or.inl hy⟩
  | a :: r, acc => by
    have h2 := viewsO_fold m r (viewsS m acc a)
    have h1 : (viewsS m acc a).length ≤ acc.length + 1 ∧ ∀ y ∈ viewsS m acc a, y ∈ acc ∨ y = (((a.1 % 4 : Nat) : Int), a.2.1, spanO m a.2.2) := by
      unfold viewsS
      split
      · exact ⟨by omega, fun y hy => Or.inl hy⟩
      · refine ⟨by simp, fun y hy => ?_⟩
        rcases List.mem_append.1 hy with e | e
        · exact Or.inl e
        · exact Or.inr (List.mem_singleton.1 e)
    simp only [List.foldl_cons, List.length_cons]
    refine ⟨by omega, fun y hy => ?_⟩
    rcases h2.2 y hy with e | ⟨k, hk, e⟩
    · rcases h1.2 y e with e | e
      · exact Or.inl e
      · exact Or.inr ⟨a, List.mem_cons_self .., e⟩
    · exact Or.inr ⟨k, List.mem_cons_of_mem _ hk, e⟩
theorem viewsO_in (m : Nat) (l : List (Nat × Bool × List Nat)) : (viewsO m l).length ≤ l.length ∧ ∀ y ∈ viewsO m l, ∃ k ∈ l, y = (((k.1 % 4 : Nat) : Int), k.2.1, spanO m k.2.2) := by
  have h := viewsO_fold m l []
  refine ⟨by simpa [viewsO] using h.1, fun y hy => ?_⟩
  rcases h.2 y hy with e | e
  · simp at e
  · exact e
theorem viewsO_ok {m : Nat} (hm : 0 < m) (hm2 : m ≤ 1000) {l : List (Nat × Bool × List Nat)} (hl : l.length ≤ 100) (hs : ∀ k ∈ l, k.2.2.length ≤ 1000) : OkV (viewsO m l) := by
  refine ⟨Nat.le_trans (viewsO_in m l).1 hl, fun v hv => ?_⟩
  obtain ⟨k, hk, rfl⟩ := (viewsO_in m l).2 v hv
  exact ⟨Nat.le_trans (spanO_in hm _).1 (hs k hk), spanO_wf hm hm2 _⟩

abbrev Vy := Vw × Value
def ytri (ys : List Vy) : List (Int × Bool × Value) := ys.map fun y => (y.1.1, y.1.2.1, y.2)
def yvs (ys : List Vy) : List Vw := ys.map (·.1)
theorem ytri_len (ys : List Vy) : (vcells (ytri ys)).length = ys.length * 3 := by rw [vcells_len]; simp [ytri]
theorem ytri_snoc (ys : List Vy) (y : Vy) : vcells (ytri ys) ++ [.int .i64 y.1.1, .bool y.1.2.1, y.2] = vcells (ytri (ys ++ [y])) := by
  simp [vcells, ytri]
theorem Vws.of_own {W : World} {B B' : Nat} {t : TypeId} {v : Value} {ys : List Vy} {n : Nat} (h : W.ownsRow B t 3 v n (vcells (ytri ys))) (hs : ∀ y ∈ ys, W.ownsRow B' 3 1 y.2 y.1.2.2.length (ivals y.1.2.2)) : Vws W W.heap.size v (yvs ys) := by
  have hn : ys.length = n := by have := h.1; rw [ytri_len] at this; omega
  subst hn
  have hvl : (yvs ys).length = ys.length := by simp [yvs]
  have hr : ∀ i (h1 : i < (ys.map (·.2)).length) (h2 : i < (yvs ys).length), Rd W W.heap.size (ys.map (·.2))[i] (ivals (yvs ys)[i].2.2) := fun i h1 h2 => by
    have hi : i < ys.length := by omega
    have := Rd.of_own (hs ys[i] (List.getElem_mem hi))
    simpa [yvs] using this
  rcases h.2 with ⟨rfl, h0⟩ | ⟨g, cap, cur, hv, _, hh, hcap, _⟩
  · exact ⟨none, 0, ys.map (·.2), by rw [hvl, h0], by simp [yvs], hr, fun hp => by omega⟩
  · subst hv
    refine ⟨_, _, ys.map (·.2), by rw [hvl], by simp [yvs], hr, fun _ => ⟨g, 0, rfl, heap_lt hh, fun j hj h1 => ?_⟩⟩
    have hjt : j < (ytri ys).length := by simp [ytri]; omega
    obtain ⟨a, b, c⟩ := vcells_get (ytri ys) j hjt
    have a' := own_cur h hh _ _ a
    have b' := own_cur h hh _ _ b
    have c' := own_cur h hh _ _ c
    rw [Nat.zero_add]
    refine ⟨?_, ?_, ?_⟩
    · simp only [World.cell?, hh, a']; simp [ytri, yvs]
    · simp only [World.cell?, hh, b']; simp [ytri, yvs]
    · simp only [World.cell?, hh, c']; simp [ytri]

theorem own_apart3 {w : World} {B B' : Nat} {e e' : TypeId} {s s' n n' : Nat} {v v' : Value} {xs xs' : List Value} (h : w.ownsRow B e s v n xs) (h' : w.ownsRow B' e' s' v' n' xs') (hne : e ≠ e') : v.ownBlock = none ∨ v.ownBlock ≠ v'.ownBlock := by
  rcases h.2 with ⟨rfl, _⟩ | ⟨g, cap, cur, rfl, _, hh, _⟩
  · left; rfl
  · right
    rcases h'.2 with ⟨rfl, _⟩ | ⟨g', cap', cur', rfl, _, hh', _⟩
    · simp [Value.ownBlock]
    · intro he
      have : g = g' := by simpa [Value.ownBlock] using he
      subst this
      rw [hh] at hh'
      injection hh' with hh'
      injection hh' with _ hh' _
      exact hne hh'

/-- What the loop of the law's views keeps. -/
structure VwSt (w : World) (n0 n1 : Nat) (cl fd : Array Value) (va vb : Value) (ya yb : List Vy) (W : World) : Prop where
  oa : W.ownsRow w.heap.size 73 3 va ya.length (vcells (ytri ya))
  ob : W.ownsRow w.heap.size 53 3 vb yb.length (vcells (ytri yb))
  sa : ∀ y ∈ ya, W.ownsRow w.heap.size 3 1 y.2 y.1.2.2.length (ivals y.1.2.2)
  sb : ∀ y ∈ yb, W.ownsRow w.heap.size 3 1 y.2 y.1.2.2.length (ivals y.1.2.2)
  bel : Below w.heap.size w W
  row : Row W n0 39 cl
  rof : Row W n1 30 fd
theorem VwSt.call {w : World} {n0 n1 : Nat} {cl fd : Array Value} {va vb : Value} {ya yb : List Vy} {W W' : World} (h : VwSt w n0 n1 cl fd va vb ya yb W) (hb : Below W.heap.size W W') : VwSt w n0 n1 cl fd va vb ya yb W' :=
  ⟨own_below h.oa hb, own_below h.ob hb, fun y hy => own_below (h.sa y hy) hb, fun y hy => own_below (h.sb y hy) hb, h.bel.trans (hb.mono h.bel.size), Below.row hb h.row h.row.lt, Below.row hb h.rof h.rof.lt⟩
theorem VwSt.putA {w : World} {n0 n1 : Nat} {cl fd : Array Value} {va vb v' : Value} {ya yb : List Vy} {W W' : World} {y : Vy} (h : VwSt w n0 n1 cl fd va vb ya yb W) (hy : W.ownsRow w.heap.size 3 1 y.2 y.1.2.2.length (ivals y.1.2.2))
    (hown : W'.ownsRow w.heap.size 73 3 v' (ya.length + 1) (vcells (ytri ya) ++ [.int .i64 y.1.1, .bool y.1.2.1, y.2])) (hg : (W.alloc (.cells #[.int .i64 y.1.1, .bool y.1.2.1, y.2] 73)).grownBy W' va.ownBlock) :
    VwSt w n0 n1 cl fd v' vb (ya ++ [y]) yb W' ∧ W'.ownsRow w.heap.size 3 1 y.2 y.1.2.2.length (ivals y.1.2.2) := by
  have hs := h.bel.size
  have hba : Below w.heap.size w (W.alloc (.cells #[.int .i64 y.1.1, .bool y.1.2.1, y.2] 73)) := h.bel.alloc hs _
  have hoa := h.oa.alloc (.cells #[.int .i64 y.1.1, .bool y.1.2.1, y.2] 73)
  have hk : ∀ (z : Vy), W.ownsRow w.heap.size 3 1 z.2 z.1.2.2.length (ivals z.1.2.2) → W'.ownsRow w.heap.size 3 1 z.2 z.1.2.2.length (ivals z.1.2.2) := fun z hz => (hz.alloc _).kept hg (own_apart3 (hz.alloc _) hoa (by decide))
  refine ⟨⟨?_, (h.ob.alloc _).kept hg (own_apart3 (h.ob.alloc _) hoa (by decide)), ?_, fun z hz => hk z (h.sb z hz), hba.grown hg (by have := hba.size; omega) (fun kk hk => (h.oa.lt kk hk).1), (h.row.alloc _).grown hg (own_ne h.oa h.row (by decide)), (h.rof.alloc _).grown hg (own_ne h.oa h.rof (by decide))⟩, hk y hy⟩
  · rw [← ytri_snoc, List.length_append]; exact hown
  · intro z hz
    rcases List.mem_append.1 hz with e | e
    · exact hk z (h.sa z e)
    · rw [List.mem_singleton] at e; subst e; exact hk z hy
theorem VwSt.putB {w : World} {n0 n1 : Nat} {cl fd : Array Value} {va vb v' : Value} {ya yb : List Vy} {W W' : World} {y : Vy} (h : VwSt w n0 n1 cl fd va vb ya yb W) (hy : W.ownsRow w.heap.size 3 1 y.2 y.1.2.2.length (ivals y.1.2.2))
    (hown : W'.ownsRow w.heap.size 53 3 v' (yb.length + 1) (vcells (ytri yb) ++ [.int .i64 y.1.1, .bool y.1.2.1, y.2])) (hg : (W.alloc (.cells #[.int .i64 y.1.1, .bool y.1.2.1, y.2] 53)).grownBy W' vb.ownBlock) :
    VwSt w n0 n1 cl fd va v' ya (yb ++ [y]) W' := by
  have hs := h.bel.size
  have hba : Below w.heap.size w (W.alloc (.cells #[.int .i64 y.1.1, .bool y.1.2.1, y.2] 53)) := h.bel.alloc hs _
  have hob := h.ob.alloc (.cells #[.int .i64 y.1.1, .bool y.1.2.1, y.2] 53)
  have hk : ∀ (z : Vy), W.ownsRow w.heap.size 3 1 z.2 z.1.2.2.length (ivals z.1.2.2) → W'.ownsRow w.heap.size 3 1 z.2 z.1.2.2.length (ivals z.1.2.2) := fun z hz => (hz.alloc _).kept hg (own_apart3 (hz.alloc _) hob (by decide))
  refine ⟨(h.oa.alloc _).kept hg (own_apart3 (h.oa.alloc _) hob (by decide)), ?_, fun z hz => hk z (h.sa z hz), ?_, hba.grown hg (by have := hba.size; omega) (fun kk hk => (h.ob.lt kk hk).1), (h.row.alloc _).grown hg (own_ne h.ob h.row (by decide)), (h.rof.alloc _).grown hg (own_ne h.ob h.rof (by decide))⟩
  · rw [← ytri_snoc, List.length_append]; exact hown
  · intro z hz
    rcases List.mem_append.1 hz with e | e
    · exact hk z (h.sb z e)
    · rw [List.mem_singleton] at e; subst e; exact hk z hy
end Go.Proofs.YtblbbdkpebacbaaDoor
