/- Two tables in a walk; the document's Has; one list that lacks a timer. -/
import Derived.Test.YtkhceigfmaajdaaT13
namespace Go.Proofs.Ytkhceigfmaajdaa
open Go.RowKit
set_option maxRecDepth 100000

set_option maxHeartbeats 1000000 in
theorem refHas_any (w : World) (D : Nat) (v : Value) (xs : List Int) (n : Int) (h : Rd w D v (ivals xs)) (hl : xs.length ≤ 100000) :
    Calls Try.prog 23 #[v, .int .i64 n] w fun e w' => e = .returned (.bool (xs.contains n)) ∧ w = w' := by
  have HR := Lib.hid h
  obtain ⟨A, c, rfl, -, -⟩ := h
  have hvl : (ivals xs).length = xs.length := by simp [ivals]
  rw [hvl] at HR ⊢
  obtain ⟨r, hr⟩ : ∃ r, xs.contains n = r := ⟨_, rfl⟩
  rw [hr]
  have HC := Lib.hid hr
  clear hr hvl
  go_enter Try.func23, Try.ntmps23
  go_wp2_with fail
  go_loop [5] (fun k => ∃ i : Nat, i ≤ xs.length ∧ k = .int .i64 i ∧ Hid (∀ j (hj : j < xs.length), j < i → xs[j] ≠ n)) (fun k => xs.length - (intOf k).toNat)
  case atStart => exact ⟨0, Nat.zero_le _, rfl, fun j _ hj => absurd hj (by omega)⟩
  case round =>
    obtain ⟨i, hi, rfl, HJ⟩ := hrel
    by_cases hlt : i < xs.length
    · obtain ⟨b, o, hA, -, q0⟩ := HR.out.at (i := i) (u := .int .i64 xs[i]) (by simp [ivals, hlt])
      subst hA
      have HQ1 : Hid (xs[i] = n → r = true) := fun e => by rw [← HC.out]; exact List.contains_iff_mem.2 (by rw [← e]; exact List.getElem_mem _)
      have HQ2 : Hid (xs[i] ≠ n → ∀ j (hj : j < xs.length), j < i + 1 → xs[j] ≠ n) := fun e j hj hji => by
        rcases Nat.lt_or_ge j i with c | c
        · exact HJ.out j hj c
        · obtain rfl : j = i := by omega
          exact e
      generalize xs[i] = z at *
      by_cases he : z = n
      · have HF := Lib.hid (HQ1.out he)
        have hes := he.symm
        subst hes
        clear HQ1 HQ2
        go_wp2_with fail
        go_ret
        exact ⟨ret_bool HF.out.symm, rfl⟩
      · have HF := Lib.hid (HQ2.out he)
        clear HQ1 HQ2
        go_wp2_with fail
        go_round
        case rel => exact ⟨i + 1, by omega, by go_num, HF⟩
        case measure => simp [intOf]; omega
    · have HF : Hid (r = false) := by
        show _ = _
        rw [← HC.out]
        cases hc : xs.contains n with
        | false => rfl
        | true =>
          obtain ⟨j, hj, e⟩ := List.getElem_of_mem (List.contains_iff_mem.1 hc)
          exact absurd e (HJ.out j hj (by omega))
      go_wp2_with fail
      go_ret
      exact ⟨ret_bool HF.out.symm, rfl⟩

/-- Two tables, apart. -/
structure TT (w0 W : World) (B0 g1 g2 : Nat) (l1 l2 : List (Int × Int)) : Prop where
  size : B0 ≤ W.heap.size
  below : Below B0 w0 W
  good1 : Good l1
  fit1 : Fit l1
  good2 : Good l2
  fit2 : Fit l2
  tab : ∃ B1 h1 B2 h2, B0 ≤ B1 ∧ B1 ≤ W.heap.size ∧ Tab W B1 g1 h1 l1 ∧ B0 ≤ B2 ∧ B2 ≤ W.heap.size ∧ Tab W B2 g2 h2 l2 ∧ g1 ≠ g2 ∧ ∀ k, h1 = some k → h2 ≠ some k

theorem TT.fst {w0 W : World} {B0 g1 g2 : Nat} {l1 l2 : List (Int × Int)} (h : TT w0 W B0 g1 g2 l1 l2) : TS w0 W B0 g1 l1 := by
  obtain ⟨B1, h1, B2, h2, a1, a2, a3, _⟩ := h.tab
  exact ⟨h.size, h.below, h.good1, h.fit1, B1, h1, a1, a2, a3⟩
theorem TT.swap {w0 W : World} {B0 g1 g2 : Nat} {l1 l2 : List (Int × Int)} (h : TT w0 W B0 g1 g2 l1 l2) : TT w0 W B0 g2 g1 l2 l1 := by
  obtain ⟨B1, h1, B2, h2, a1, a2, a3, a4, a5, a6, a7, a8⟩ := h.tab
  exact ⟨h.size, h.below, h.good2, h.fit2, h.good1, h.fit1, B2, h2, B1, h1, a4, a5, a6, a1, a2, a3, Ne.symm a7, fun k e1 e2 => a8 k e2 e1⟩
theorem TT.snd {w0 W : World} {B0 g1 g2 : Nat} {l1 l2 : List (Int × Int)} (h : TT w0 W B0 g1 g2 l1 l2) : TS w0 W B0 g2 l2 := h.swap.fst
theorem TT.call {w0 W W' : World} {B0 g1 g2 : Nat} {l1 l2 : List (Int × Int)} (h : TT w0 W B0 g1 g2 l1 l2) (hb : Below W.heap.size W W') : TT w0 W' B0 g1 g2 l1 l2 := by
  obtain ⟨B1, h1, B2, h2, a1, a2, a3, a4, a5, a6, a7, a8⟩ := h.tab
  exact ⟨Nat.le_trans h.size hb.size, h.below.trans (hb.mono h.size), h.good1, h.fit1, h.good2, h.fit2, B1, h1, B2, h2, a1, Nat.le_trans a2 hb.size, a3.below hb, a4, Nat.le_trans a5 hb.size, a6.below hb, a7, a8⟩

/-- The second outlives what is done with the first. -/
theorem Tab.apart {W w' : World} {B1 B2 g1 g2 : Nat} {h1 h2 : Option Nat} {l1 l2 : List (Int × Int)} (t1 : Tab W B1 g1 h1 l1) (t2 : Tab W B2 g2 h2 l2) (hg : g1 ≠ g2) (ha : ∀ k, h1 = some k → h2 ≠ some k) (hk : KeptL (g1 :: h1.toList) W w') : Tab w' B2 g2 h2 l2 := by
  obtain ⟨_, v1, r1, o1, e1⟩ := t1
  obtain ⟨b2, v2, r2, o2, e2⟩ := t2
  refine ⟨b2, v2, hk.row r2 ?_, own_keptS o2 hk ?_, e2⟩
  · intro hm
    rw [List.mem_cons] at hm
    rcases hm with c | c
    · exact hg c.symm
    · have e : v1.ownBlock = some g2 := e1.trans (by simpa using c)
      exact own_ne o1 r2 (by decide) e.symm
  · intro k hk2 hm
    rw [List.mem_cons] at hm
    rcases hm with c | c
    · rw [c] at hk2
      exact own_ne o2 r1 (by decide) hk2.symm
    · exact ha k (by simpa using c) (e2.symm.trans hk2)

theorem Tab.hlt {W : World} {B g : Nat} {h : Option Nat} {l : List (Int × Int)} (t : Tab W B g h l) : ∀ k, h = some k → k < W.heap.size := by
  obtain ⟨_, v, _, ho, hv⟩ := t
  intro k hk
  exact (ho.lt k (hv.trans hk)).2

theorem tt_new (w0 W : World) (B0 g1 : Nat) (l1 : List (Int × Int)) (h : TS w0 W B0 g1 l1) : Calls Try.prog 10 #[] W fun e w' => ∃ g2, e = .returned (.pointer (some ⟨g2, 0, none⟩)) ∧ TT w0 w' B0 g1 g2 l1 [] := by
  refine (new_any W).mono ?_
  rintro e w' ⟨rfl, ht, hb, hs⟩
  have h2 := h.call hb
  obtain ⟨B, hh, h5, h6, h7⟩ := h2.tab
  refine ⟨_, rfl, ⟨h2.size, h2.below, h2.good, h2.fit, ⟨List.Pairwise.nil, List.nodup_nil, by simp⟩, (fun p hp => by simp at hp), B, hh, W.heap.size, none, h5, h6, h7, h.size, by omega, ht, ?_, fun k _ => by simp⟩⟩
  obtain ⟨B', hh', _, _, h7'⟩ := h.tab
  obtain ⟨_, v, hr, _⟩ := h7'
  have := hr.lt
  omega

theorem tt_start (w0 W : World) (B0 g1 g2 : Nat) (l1 l2 : List (Int × Int)) (id at_ : Int) (h : TT w0 W B0 g1 g2 l1 l2) (r1 : -9223372036854775808 ≤ at_) (r2 : at_ ≤ 9223372036854775807) :
    Calls Try.prog 13 #[.pointer (some ⟨g1, 0, none⟩), .int .i64 id, .int .i64 at_] W fun e w' => e = .returned (.int .i64 (startE l1 id)) ∧ TT w0 w' B0 g1 g2 (startL l1 id at_) l2 ∧ Kt W w' := by
  obtain ⟨B1, h1, B2, h2, a1, a2, a3, a4, a5, a6, a7, a8⟩ := h.tab
  refine (start_any W B1 g1 h1 l1 id at_ a3 h.good1 a2).mono ?_
  rintro e w' ⟨rfl, h', ht, hat, hk⟩
  refine ⟨rfl, ⟨Nat.le_trans h.size hk.size, h.below.trans (a3.lows a1 h.size hk), start_good h.good1 _ _, start_fit h.fit1 _ _ r1 r2, h.good2, h.fit2, B1, h', B2, h2, a1, Nat.le_trans a2 hk.size, ht, a4, Nat.le_trans a5 hk.size, a3.apart a6 a7 a8 hk, a7, ?_⟩, a3.kt hk⟩
  intro k hk1 hk2
  rcases hat with e | ⟨k', e, hge⟩
  · exact a8 k (e.symm.trans hk1) hk2
  · have := a6.hlt k hk2
    rw [e] at hk1
    injection hk1 with hk1
    omega

theorem tt_stop (w0 W : World) (B0 g1 g2 : Nat) (l1 l2 : List (Int × Int)) (id : Int) (h : TT w0 W B0 g1 g2 l1 l2) :
    Calls Try.prog 15 #[.pointer (some ⟨g1, 0, none⟩), .int .i64 id] W fun e w' => e = .returned (.bool (hasL l1 id)) ∧ TT w0 w' B0 g1 g2 (stopL l1 id) l2 ∧ Kt W w' := by
  obtain ⟨B1, h1, B2, h2, a1, a2, a3, a4, a5, a6, a7, a8⟩ := h.tab
  refine (stop_any W B1 g1 h1 l1 id a3 h.good1).mono ?_
  rintro e w' ⟨rfl, ht, hk⟩
  exact ⟨rfl, ⟨Nat.le_trans h.size hk.size, h.below.trans (a3.lows a1 h.size hk), stop_good h.good1 _, fun p hp => h.fit1 p (List.mem_filter.1 hp).1, h.good2, h.fit2, B1, h1, B2, h2, a1, Nat.le_trans a2 hk.size, ht, a4, Nat.le_trans a5 hk.size, a3.apart a6 a7 a8 hk, a7, a8⟩, a3.kt hk⟩

theorem tt_ended (w0 W : World) (B0 g1 g2 : Nat) (l1 l2 : List (Int × Int)) (now : Int) (h : TT w0 W B0 g1 g2 l1 l2) :
    Calls Try.prog 16 #[.pointer (some ⟨g1, 0, none⟩), .int .i64 now] W fun e w' => ∃ v, e = .returned v ∧ w'.ownsRow B0 3 1 v (endL l1 now).length (ivals ((endL l1 now).map Prod.fst)) ∧ TT w0 w' B0 g1 g2 (restL l1 now) l2 ∧ Kt W w' := by
  obtain ⟨B1, h1, B2, h2, a1, a2, a3, a4, a5, a6, a7, a8⟩ := h.tab
  refine (ended_any W B1 g1 h1 l1 now a3 h.good1).mono ?_
  rintro e w' ⟨v, rfl, ho, ht, hk⟩
  exact ⟨v, rfl, own_base ho h.size, ⟨Nat.le_trans h.size hk.size, h.below.trans (a3.lows a1 h.size hk), end_good h.good1 _, fun p hp => h.fit1 p (List.mem_filter.1 hp).1, h.good2, h.fit2, B1, h1, B2, h2, a1, Nat.le_trans a2 hk.size, ht, a4, Nat.le_trans a5 hk.size, a3.apart a6 a7 a8 hk, a7, a8⟩, a3.kt hk⟩

/-- Two lists of the same timers are one. -/
theorem same_good : ∀ (a b : List (Int × Int)), a.Pairwise ltT → b.Pairwise ltT → (∀ x, x ∈ a ↔ x ∈ b) → a = b
  | [], [], _, _, _ => rfl
  | [], y :: b, _, _, h => by have := (h y).2 (by simp); simp at this
  | x :: a, [], _, _, h => by have := (h x).1 (by simp); simp at this
  | x :: a, y :: b, ha, hb, h => by
    have ha2 := List.pairwise_cons.1 ha
    have hb2 := List.pairwise_cons.1 hb
    have hxy : x = y := by
      have h1 := (h x).1 (by simp)
      have h2 := (h y).2 (by simp)
      rw [List.mem_cons] at h1 h2
      rcases h1 with h1 | h1
      · exact h1
      · rcases h2 with h2 | h2
        · exact h2.symm
        · exact absurd (ltT_trans (ha2.1 y h2) (hb2.1 x h1)) (ltT_irrefl x)
    subst hxy
    congr 1
    refine same_good a b ha2.2 hb2.2 fun z => ?_
    have hz := h z
    rw [List.mem_cons, List.mem_cons] at hz
    constructor
    · intro h1
      rcases hz.1 (Or.inr h1) with e | e
      · subst e; exact absurd (ha2.1 z h1) (ltT_irrefl z)
      · exact e
    · intro h1
      rcases hz.2 (Or.inr h1) with e | e
      · subst e; exact absurd (hb2.1 z h1) (ltT_irrefl z)
      · exact e

theorem mem_stop (l : List (Int × Int)) (id : Int) (x : Int × Int) : x ∈ stopL l id ↔ x ∈ l ∧ x.1 ≠ id := by
  unfold stopL
  rw [List.mem_filter]
  simp
theorem mem_start (l : List (Int × Int)) (id at_ : Int) (hf : fullL l id = false) (x : Int × Int) : x ∈ startL l id at_ ↔ x = (id, at_) ∨ (x ∈ l ∧ x.1 ≠ id) := by
  rw [(start_perm l id at_ hf).mem_iff, List.mem_cons, mem_stop]

/-- Started beside one that is struck. -/
theorem start_beside {l : List (Int × Int)} (h : Good l) (id at_ k : Int) (hl : l.length < 32) (hne : id ≠ k) : startL (stopL l k) id at_ = stopL (startL l id at_) k := by
  have hf : fullL l id = false := full_no hl
  have hf2 : fullL (stopL l k) id = false := full_no (Nat.lt_of_le_of_lt (List.length_filter_le _ _) hl)
  refine same_good _ _ (start_good (stop_good h k) _ _).sorted (stop_good (start_good h _ _) k).sorted fun x => ?_
  rw [mem_start _ _ _ hf2, mem_stop, mem_stop, mem_start _ _ _ hf]
  constructor
  · rintro (rfl | ⟨⟨h1, h2⟩, h3⟩)
    · exact ⟨Or.inl rfl, hne⟩
    · exact ⟨Or.inr ⟨h1, h3⟩, h2⟩
  · rintro ⟨rfl | ⟨h1, h3⟩, h2⟩
    · exact Or.inl rfl
    · exact Or.inr ⟨⟨h1, h2⟩, h3⟩
theorem start_struck {l : List (Int × Int)} (h : Good l) (at_ k : Int) (hl : l.length < 32) : stopL (startL l k at_) k = stopL l k := by
  have hf : fullL l k = false := full_no hl
  refine same_good _ _ (stop_good (start_good h _ _) k).sorted (stop_good h k).sorted fun x => ?_
  rw [mem_stop, mem_stop, mem_start _ _ _ hf]
  constructor
  · rintro ⟨rfl | ⟨h1, h3⟩, h2⟩
    · exact absurd rfl h2
    · exact ⟨h1, h2⟩
  · rintro ⟨h1, h2⟩
    exact ⟨Or.inr ⟨h1, h2⟩, h2⟩

theorem no_end (l : List (Int × Int)) (k now : Int) : ((endL (stopL l k) now).map Prod.fst).contains k = false ∧ leftL (restL (stopL l k) now) k now = (0, false) := by
  have h1 : ∀ p ∈ stopL l k, p.1 ≠ k := fun p hp => ((mem_stop l k p).1 hp).2
  constructor
  · cases e : ((endL (stopL l k) now).map Prod.fst).contains k with
    | false => rfl
    | true =>
      obtain ⟨p, hp, e2⟩ := List.mem_map.1 (List.contains_iff_mem.1 e)
      exact absurd e2 (h1 p (List.mem_filter.1 hp).1)
  · unfold leftL
    have e : (restL (stopL l k) now).find? (fun p => decide (p.1 = k)) = none := by
      rw [List.find?_eq_none]
      intro p hp
      simpa using h1 p (List.mem_filter.1 hp).1
    rw [e]

end Go.Proofs.Ytkhceigfmaajdaa
