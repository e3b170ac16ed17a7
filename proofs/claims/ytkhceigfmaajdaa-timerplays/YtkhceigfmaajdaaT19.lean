/- Pure: the program's list and the document's are of the same timers. -/
import Derived.Test.YtkhceigfmaajdaaT18
namespace Go.Proofs.Ytkhceigfmaajdaa
open Go.RowKit
set_option maxRecDepth 100000

theorem full_perm {l m : List (Int × Int)} (h : l.Perm m) (id : Int) : fullL l id = fullL m id := by
  unfold fullL
  rw [has_perm h, h.length_eq]
theorem startE_perm {l m : List (Int × Int)} (h : l.Perm m) (id : Int) : startE l id = startE m id := by
  unfold startE; rw [full_perm h]
theorem start_rel {l m : List (Int × Int)} (h : l.Perm m) (id at_ : Int) : (startL l id at_).Perm (startR m id at_) := by
  unfold startR
  rw [← full_perm h]
  cases e : fullL l id with
  | true => rw [startL_full e]; simpa using h
  | false =>
    refine (start_perm l id at_ e).trans ?_
    rw [if_neg (by simp)]
    refine List.Perm.trans ?_ (List.perm_append_singleton _ _).symm
    exact List.Perm.cons _ (h.filter _)
theorem stop_rel {l m : List (Int × Int)} (h : l.Perm m) (id : Int) : (stopL l id).Perm (stopL m id) := h.filter _
theorem fit_perm {l m : List (Int × Int)} (h : l.Perm m) (hf : Fit l) : Fit m := fun p hp => hf p (h.mem_iff.2 hp)
theorem ids_perm {l m : List (Int × Int)} (h : l.Perm m) (hn : (l.map Prod.fst).Nodup) : (m.map Prod.fst).Nodup := (h.map Prod.fst).nodup_iff.1 hn

theorem left_mem {l : List (Int × Int)} (hn : (l.map Prod.fst).Nodup) {p : Int × Int} (hp : p ∈ l) (now : Int) : leftL l p.1 now = (betw now p.2, true) := by
  rcases find_cases l hn p.1 with ⟨_, f2, _, _⟩ | ⟨i, hi, f1, _, _, f4⟩
  · have := (has_iff l p.1).2 (List.mem_map_of_mem hp)
    rw [this] at f2; cases f2
  · rw [f4]
    obtain ⟨j, hj, rfl⟩ := List.getElem_of_mem hp
    have hi1 : l[i].1 = l[j].1 := by
      unfold findL at f1
      cases e : l.findIdx? (fun q => decide (q.1 = l[j].1)) with
      | none => rw [e] at f1; simp only at f1; omega
      | some k =>
        rw [e] at f1
        simp only at f1
        have hk : k = i := by omega
        subst hk
        obtain ⟨_, h1, _⟩ := List.findIdx?_eq_some_iff_getElem.1 e
        simpa using h1
    have hij : i = j := by
      have := (List.pairwise_iff_getElem.1 hn)
      rcases Nat.lt_trichotomy i j with c | c | c
      · have := this i j (by simpa using hi) (by simpa using hj) c
        simp at this
        exact absurd hi1 this
      · exact c
      · have := this j i (by simpa using hj) (by simpa using hi) c
        simp at this
        exact absurd hi1.symm this
    subst hij
    rfl
theorem left_none {l : List (Int × Int)} (hn : (l.map Prod.fst).Nodup) {id : Int} (h : hasL l id = false) (now : Int) : leftL l id now = (0, false) := by
  rcases find_cases l hn id with ⟨_, _, _, f4⟩ | ⟨i, hi, _, f2, _, _⟩
  · exact f4 now
  · rw [h] at f2; cases f2
theorem left_rel {l m : List (Int × Int)} (h : l.Perm m) (hn : (l.map Prod.fst).Nodup) (id now : Int) : leftL m id now = leftL l id now := by
  have hm := ids_perm h hn
  cases e : hasL l id with
  | false => rw [left_none hn e, left_none hm (by rw [← has_perm h]; exact e)]
  | true =>
    obtain ⟨p, hp, rfl⟩ := List.mem_map.1 ((has_iff l id).1 e)
    rw [left_mem hn hp, left_mem hm (h.mem_iff.1 hp)]

theorem end_split : ∀ (l : List (Int × Int)) (now : Int), l.Pairwise ltT → endL l now ++ restL l now = l
  | [], _, _ => rfl
  | x :: l, now, h => by
    have h2 := List.pairwise_cons.1 h
    have ih := end_split l now h2.2
    by_cases c : x.2 ≤ now
    · have e1 : endL (x :: l) now = x :: endL l now := by simp [endL, c]
      have e2 : restL (x :: l) now = restL l now := by simp [restL, c]
      rw [e1, e2, List.cons_append, ih]
    · have hall : ∀ p ∈ l, ¬ p.2 ≤ now := by
        intro p hp hc
        have := h2.1 p hp
        unfold ltT at this
        omega
      have e1 : endL (x :: l) now = [] := by
        unfold endL
        rw [List.filter_eq_nil_iff]
        intro p hp
        rw [List.mem_cons] at hp
        rcases hp with rfl | hp
        · simpa using c
        · simpa using hall p hp
      have e2 : restL (x :: l) now = x :: l := by
        unfold restL
        rw [List.filter_eq_self]
        intro p hp
        rw [List.mem_cons] at hp
        rcases hp with rfl | hp
        · simpa using c
        · simpa using hall p hp
      rw [e1, e2]; rfl

/-- The next that has ended is the list's head. -/
theorem end_next {l m : List (Int × Int)} {now : Int} {r : Option (Int × Int)} (hs : l.Pairwise ltT) (h : l.Perm m) (hr : EndR m now r) :
    (∀ x t, l = x :: t → x.2 ≤ now → r = some x) ∧ ((∀ p ∈ l, ¬ p.2 ≤ now) → r = none) := by
  constructor
  · intro x t e hx
    subst e
    have hs2 := List.pairwise_cons.1 hs
    cases r with
    | none => exact absurd hx (hr x (h.mem_iff.1 (by simp)))
    | some y =>
      obtain ⟨h1, h2, h3⟩ := hr
      have hy := h.mem_iff.2 h1
      rw [List.mem_cons] at hy
      rcases hy with rfl | hy
      · rfl
      · exact absurd (hs2.1 y hy) (h3 x (h.mem_iff.1 (by simp)) hx)
  · intro hn
    cases r with
    | none => rfl
    | some y => exact absurd hr.2.1 (hn y (h.mem_iff.2 hr.1))

/-- Round by round: what the document's Ended tells, and what is left of its list. -/
structure Round (l ms : List (Int × Int)) (now : Int) (k : Nat) : Prop where
  le : k ≤ (endL l now).length
  perm : ((endL l now).drop k ++ restL l now).Perm ms
theorem Round.start {l ms : List (Int × Int)} {now : Int} (hg : Good l) (h : l.Perm ms) : Round l ms now 0 := ⟨Nat.zero_le _, by rw [List.drop_zero, end_split l now hg.sorted]; exact h⟩
theorem Round.sub {l : List (Int × Int)} {now : Int} {k : Nat} (hg : Good l) : ((endL l now).drop k ++ restL l now).Sublist l := by
  conv => rhs; rw [← end_split l now hg.sorted]
  exact List.Sublist.append (List.drop_sublist _ _) (List.Sublist.refl _)
theorem Round.good {l ms : List (Int × Int)} {now : Int} {k : Nat} (hg : Good l) (h : Round l ms now k) : (ms.map Prod.fst).Nodup ∧ ms.length ≤ 32 := by
  have hs := Round.sub (now := now) (k := k) hg
  exact ⟨ids_perm h.perm (hg.ids.sublist (hs.map _)), by rw [← h.perm.length_eq]; exact Nat.le_trans hs.length_le hg.len⟩
theorem Round.next {l ms : List (Int × Int)} {now : Int} {k : Nat} {r : Option (Int × Int)} (hg : Good l) (h : Round l ms now k) (hr : EndR ms now r) (hk : k < (endL l now).length) :
    r = some (endL l now)[k] ∧ Round l (stopL ms (endL l now)[k].1) now (k + 1) := by
  have hs := (Round.sub (now := now) (k := k) hg)
  have hso : ((endL l now).drop k ++ restL l now).Pairwise ltT := hg.sorted.sublist hs
  have hids := hg.ids.sublist (hs.map Prod.fst)
  have e : (endL l now).drop k ++ restL l now = (endL l now)[k] :: ((endL l now).drop (k + 1) ++ restL l now) := by
    rw [← List.getElem_cons_drop hk]; rfl
  have hx : (endL l now)[k].2 ≤ now := by simpa using (List.mem_filter.1 (List.getElem_mem hk)).2
  refine ⟨(end_next hso h.perm hr).1 _ _ e hx, ⟨by omega, ?_⟩⟩
  refine List.Perm.trans ?_ (stop_rel h.perm _)
  rw [e] at hids ⊢
  rw [List.map_cons, List.nodup_cons] at hids
  have e3 : stopL ((endL l now)[k] :: ((endL l now).drop (k + 1) ++ restL l now)) (endL l now)[k].1 = (endL l now).drop (k + 1) ++ restL l now := by
    unfold stopL
    rw [List.filter_cons, if_neg (by simp), List.filter_eq_self]
    intro p hp
    have : p.1 ≠ (endL l now)[k].1 := fun ee => hids.1 (by rw [← ee]; exact List.mem_map_of_mem hp)
    simpa using this
  rw [e3]
theorem Round.stop {l ms : List (Int × Int)} {now : Int} {k : Nat} {r : Option (Int × Int)} (hg : Good l) (h : Round l ms now k) (hr : EndR ms now r) (hk : ¬ k < (endL l now).length) : r = none ∧ (restL l now).Perm ms := by
  have e : (endL l now).drop k ++ restL l now = restL l now := by rw [List.drop_of_length_le (by omega)]; rfl
  have hp := h.perm
  rw [e] at hp
  refine ⟨(end_next (hg.sorted.filter _) hp hr).2 (fun p hp2 => ?_), hp⟩
  have := (List.mem_filter.1 hp2).2
  simpa using this

theorem tmod30 {x : Int} (h1 : -9223372036854775808 ≤ x) (h2 : x ≤ 9223372036854775807) : -9223372036854775808 ≤ x.tmod 30 ∧ x.tmod 30 ≤ 9223372036854775807 := by
  rcases Int.lt_or_le x 0 with c | c
  · have e : x.tmod 30 = -((-x).tmod 30) := by rw [Int.neg_tmod]; omega
    rw [e, Int.tmod_eq_emod_of_nonneg (by omega)]
    omega
  · rw [Int.tmod_eq_emod_of_nonneg c]
    omega

end Go.Proofs.Ytkhceigfmaajdaa
