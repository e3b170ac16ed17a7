/- Pure: the letters of any bytes; what is behind them. -/
import Derived.Test.YthpfhcelmddjlaaNested
namespace Go.Proofs.Ythpfhcelmddjlaa
open Go.RowKit Fl
set_option maxRecDepth 100000

theorem bitQ_drop (q : List Nat) (m k : Nat) : bitQ (q.drop m) k = bitQ q (8 * m + k) := by
  unfold bitQ
  have h1 : (8 * m + k) / 8 = m + k / 8 := by omega
  have h2 : (8 * m + k) % 8 = k % 8 := by omega
  rw [h1, h2]
  simp [List.getD]

theorem upto_drop (q : List Nat) (m : Nat) (h : m ≤ q.length) : (upto q q.length).drop (8 * m) = upto (q.drop m) (q.drop m).length := by
  apply List.ext_getElem
  · rw [List.length_drop, upto_length, upto_length, List.length_drop]; omega
  · intro i h1 h2
    simp only [upto, List.getElem_drop, List.getElem_map, List.getElem_range]
    rw [bitQ_drop]

theorem tget_body (q : List Nat) (hq : ∀ x ∈ q, x < 256) (m : Nat) (h : m < q.length) : tget 8 (some ((upto q q.length).drop (8 * m))) = (q.getD m 0, some ((upto q q.length).drop (8 * (m + 1)))) := by
  have hl : ((upto q q.length).drop (8 * m)).length = 8 * q.length - 8 * m := by rw [List.length_drop, upto_length]
  rw [tget_long (by rw [hl]; omega), hor_rem q (8 * m) 8 (by omega), numTo_byte q hq, List.drop_drop]
  rfl

/-- The bytes that begin with the letters. -/
def begins (o : List Nat) : Bool := decide (2 ≤ o.length) && (decide (o.getD 0 0 = 66) && decide (o.getD 1 0 = 76))

theorem okBL_body (o : List Nat) (hq : ∀ x ∈ o, x < 256) : okBL (body o) = begins o := by
  unfold okBL begins body
  match o, hq with
  | [], _ => rfl
  | [a], hq =>
    have h := tget_body [a] hq 0 (by simp)
    simp only [Nat.mul_zero, List.drop_zero] at h
    rw [h, tget_short (by rw [List.length_drop, upto_length]; simp)]
    simp
  | a :: b :: r, hq =>
    have h := tget_body (a :: b :: r) hq 0 (by simp)
    simp only [Nat.mul_zero, List.drop_zero] at h
    rw [h, tget_body (a :: b :: r) hq 1 (by simp)]
    simp

theorem behind (o : List Nat) (hq : ∀ x ∈ o, x < 256) (h : 2 ≤ o.length) : (tget 8 (tget 8 (body o)).2).2 = body (o.drop 2) := by
  unfold body
  have h0 := tget_body o hq 0 (by omega)
  simp only [Nat.mul_zero, List.drop_zero] at h0
  rw [h0, tget_body o hq 1 (by omega)]
  show some _ = some _
  rw [upto_drop o 2 h]

theorem Rd.drop {w : World} {B : Nat} {A : Option Addr} {n c : Nat} {xs : List Value} (h : Rd w B (.slice A n c) xs) (m : Nat) (hm : m ≤ xs.length) (hne : 0 < xs.length) : Rd w B (.slice (A.map fun a => a.add m) (n - m) (c - m)) (xs.drop m) := by
  obtain ⟨A', c', hv, h0, hx⟩ := h
  injection hv with h1 h2 h3
  subst h1; subst h3
  obtain ⟨b, o, hA, hb, hc⟩ := hx hne
  subst hA
  refine ⟨_, _, by rw [List.length_drop, h2], ⟨(fun h => by cases h), by rw [List.length_drop]; have := h0.2; omega⟩, fun hp => ⟨b, o + m, by rw [Option.map_some, add_at], hb, fun j u hu => ?_⟩⟩
  rw [List.getElem?_drop] at hu
  rw [Nat.add_assoc]; exact hc (m + j) u hu

def scells (xs : List (Int × Int × Int)) : List Value := xs.flatMap fun s => [.int .i64 s.1, .int .i64 s.2.1, .int .i64 s.2.2]
def pcells (xs : List (Int × Int × Int × Int)) : List Value := xs.flatMap fun s => [.int .i64 s.1, .int .i64 s.2.1, .int .i64 s.2.2.1, .int .i64 s.2.2.2]

theorem scells_snoc (xs : List (Int × Int × Int)) (x : Int × Int × Int) : scells xs ++ [.int .i64 x.1, .int .i64 x.2.1, .int .i64 x.2.2] = scells (xs ++ [x]) := by simp [scells]
theorem pcells_snoc (xs : List (Int × Int × Int × Int)) (x : Int × Int × Int × Int) : pcells xs ++ [.int .i64 x.1, .int .i64 x.2.1, .int .i64 x.2.2.1, .int .i64 x.2.2.2] = pcells (xs ++ [x]) := by simp [pcells]

theorem scells_get (xs : List (Int × Int × Int)) : ∀ j (h : j < xs.length), (scells xs)[j * 3]? = some (.int .i64 xs[j].1) ∧ (scells xs)[j * 3 + 1]? = some (.int .i64 xs[j].2.1) ∧ (scells xs)[j * 3 + 2]? = some (.int .i64 xs[j].2.2) := by
  induction xs with
  | nil => intro j h; simp at h
  | cons a r ih =>
    intro j h
    have e : scells (a :: r) = .int .i64 a.1 :: .int .i64 a.2.1 :: .int .i64 a.2.2 :: scells r := by simp [scells]
    cases j with
    | zero => rw [e]; simp
    | succ j =>
      rw [e]
      obtain ⟨h1, h2, h3⟩ := ih j (by simpa using h)
      have e1 : (j + 1) * 3 = j * 3 + 3 := by omega
      rw [e1]
      simp only [List.getElem?_cons_succ, List.getElem_cons_succ]
      exact ⟨h1, h2, h3⟩

theorem pcells_get (xs : List (Int × Int × Int × Int)) : ∀ j (h : j < xs.length), (pcells xs)[j * 4]? = some (.int .i64 xs[j].1) ∧ (pcells xs)[j * 4 + 1]? = some (.int .i64 xs[j].2.1) ∧ (pcells xs)[j * 4 + 2]? = some (.int .i64 xs[j].2.2.1) ∧ (pcells xs)[j * 4 + 3]? = some (.int .i64 xs[j].2.2.2) := by
  induction xs with
  | nil => intro j h; simp at h
  | cons a r ih =>
    intro j h
    have e : pcells (a :: r) = .int .i64 a.1 :: .int .i64 a.2.1 :: .int .i64 a.2.2.1 :: .int .i64 a.2.2.2 :: pcells r := by simp [pcells]
    cases j with
    | zero => rw [e]; simp
    | succ j =>
      rw [e]
      obtain ⟨h1, h2, h3, h4⟩ := ih j (by simpa using h)
      have e1 : (j + 1) * 4 = j * 4 + 4 := by omega
      rw [e1]
      simp only [List.getElem?_cons_succ, List.getElem_cons_succ]
      exact ⟨h1, h2, h3, h4⟩

theorem own_cur {w : World} {base n g cap size : Nat} {e : TypeId} {xs : List Value} (h : w.ownsRow base e size (.slice (some ⟨g, 0, none⟩) n cap) n xs) {cur : Array Value} (hh : w.heap[g]? = some (.cells cur e (0, 0))) (j : Nat) (u : Value) (hu : xs[j]? = some u) : cur[j]? = some u := by
  have hl := h.1
  have hj : j < n * size := by have := (List.getElem?_eq_some_iff.1 hu).1; omega
  have hc := h.cellAt j hj
  rw [hu] at hc
  simpa [World.cell?, hh] using hc

theorem IsSecs.of_own {w : World} {base n : Nat} {v : Value} {xs : List (Int × Int × Int)} (h : w.ownsRow base 50 3 v n (scells xs)) (hn : xs.length = n) : IsSecs w v xs := by
  subst hn
  rcases h.2 with ⟨rfl, h0⟩ | ⟨g, cap, cur, hv, _, hh, _⟩
  · exact ⟨none, 0, by rw [h0], fun hp => by omega⟩
  · subst hv
    refine ⟨_, _, rfl, fun _ => ⟨g, cur, (0, 0), rfl, hh, fun j hj => ?_⟩⟩
    obtain ⟨a, b, c⟩ := scells_get xs j hj
    exact ⟨own_cur h hh _ _ a, own_cur h hh _ _ b, own_cur h hh _ _ c⟩

theorem IsPoints.of_own {w : World} {base n : Nat} {v : Value} {xs : List (Int × Int × Int × Int)} (h : w.ownsRow base 53 4 v n (pcells xs)) (hn : xs.length = n) : IsPoints w v xs := by
  subst hn
  rcases h.2 with ⟨rfl, h0⟩ | ⟨g, cap, cur, hv, _, hh, _⟩
  · exact ⟨none, 0, by rw [h0], fun hp => by omega⟩
  · subst hv
    refine ⟨_, _, rfl, fun _ => ⟨g, cur, (0, 0), rfl, hh, fun j hj => ?_⟩⟩
    obtain ⟨a, b, c, d⟩ := pcells_get xs j hj
    exact ⟨own_cur h hh _ _ a, own_cur h hh _ _ b, own_cur h hh _ _ c, own_cur h hh _ _ d⟩

theorem row_new (w : World) (t : TypeId) (xs : List Value) : ∀ (j : Nat) (u : Value), xs[j]? = some u → (w.alloc (.cells xs.toArray t)).cell? ((⟨w.heap.size, 0, none⟩ : Addr).add j) = some u := by
  intro j u hj
  rw [add_at, Nat.zero_add, (Row.new w t xs.toArray).cell j]
  simpa using hj

end Go.Proofs.Ythpfhcelmddjlaa
