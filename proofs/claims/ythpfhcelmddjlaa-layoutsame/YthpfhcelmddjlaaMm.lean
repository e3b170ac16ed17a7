/- Drawn regions whose last operation writes what was loaded ahead of it: what is loaded may be taken first all the same. Lists of numbers that a call itself made, no two in one block: a new one, one more number in the last one. Make's and Rough's own variables. -/
import Derived.OrdersHeld
import Derived.Test.YthpfhcelmddjlaaDm
import Derived.Laws.OwnMore
import Derived.Deep.CutBlock
import Derived.StillTailTactics
import Derived.Deep.AppendLies
import Derived.Deep.RegionHeld
namespace Go.Proofs.Ythpfhcelmddjlaa
open Go

section
variable {P : Program} {ops : Array Oper} {Q : Exit → Act → World → Prop} {md : Region.Mode} {S : World → Prop} {t : Nat}

/-- Any order from here on; S holds behind every operation but number t. -/
def AnyBut (P : Program) (md : Region.Mode) (ops : Array Oper) (Q : Exit → Act → World → Prop) (S : World → Prop) (t : Nat) : Nat → Array Bool → Act → World → Prop
  | 0, L, a, w => Region.ready md ops L = [] ∧ Q .normal a w
  | n + 1, L, a, w => (Region.ready md ops L = [] → Q .normal a w) ∧
      ∀ j ∈ Region.ready md ops L, wpOp P ops Q j (fun a' w' => (j ≠ t → S w') ∧ AnyBut P md ops Q S t n (L.setIfInBounds j true) a' w') a w

theorem AnyBut.any : ∀ (n : Nat) (L : Array Bool) (a : Act) (w : World), AnyBut P md ops Q S t n L a w → wpAny P md ops Q n L a w
  | 0, _, _, _, h => h
  | n + 1, _, _, _, h => ⟨h.1, fun j hj => wpOp_mono (fun _ _ h' => AnyBut.any n _ _ _ h'.2) (h.2 j hj)⟩

/-- What is ready beside an unlisted i does not wait for i. -/
theorem ready_nowait {i j : Nat} {L : Array Bool} {oj : Oper} (hi : i ∈ Region.ready md ops L) (hj : j ∈ Region.ready md ops L) (ho : ops[j]? = some oj) :
    ∀ e ∈ oj.after, Region.binds md e = true → e.on ≠ i := by
  intro e he hb heq
  obtain ⟨_, o', ho', hall⟩ := mem_ready.1 hj
  obtain rfl : oj = o' := by rw [ho] at ho'; exact Option.some.inj ho'
  have h1 := hall e he hb
  have h0 := (mem_ready.1 hi).1
  rw [heq] at h1
  by_cases hlt : i < L.size
  · simp [hlt] at h0 h1; rw [h0] at h1; cases h1
  · simp [Array.getElem?_eq_none (Nat.le_of_not_lt hlt)] at h1

theorem AnyBut.first {i : Nat} {oi : Oper} {v : Value} (hi : ops[i]? = some oi) (hs : Region.noSelect ops = true)
    (hQ : ∀ c a w, Q (.panic c) (a.put oi.dst v) w → Q (.panic c) a w)
    (ht : ∀ o, ops[t]? = some o → ∃ e ∈ o.after, Region.binds md e = true ∧ e.on = i) (hit : i ≠ t) :
    ∀ (n : Nat) (L : Array Bool) (a : Act) (w : World),
      (∀ j oj, ops[j]? = some oj → j ≠ i → L.getD j true = false → (∀ e ∈ oj.after, Region.binds md e = true → e.on ≠ i) → oi.apart ops oj = true) →
      i ∈ Region.ready md ops L → YieldsIf P ops S oi v a → S w → AnyBut P md ops Q S t n (L.setIfInBounds i true) (a.put oi.dst v) w → AnyBut P md ops Q S t (n + 1) L a w := by
  have hsel := Region.noSelect_spec hs
  intro n
  induction n with
  | zero =>
    intro L a w hfree hr hy hS H
    refine ⟨fun h => (by rw [h] at hr; cases hr), fun j hj => ?_⟩
    by_cases e : j = i
    · subst e; exact hy.wpOp hi hS ⟨fun _ => hS, H⟩
    · have h0 := ready_mono hj e
      rw [H.1] at h0
      cases h0
  | succ n ih =>
    intro L a w hfree hr hy hS H
    refine ⟨fun h => (by rw [h] at hr; cases hr), fun j hj => ?_⟩
    by_cases e : j = i
    · subst e; exact hy.wpOp hi hS ⟨fun _ => hS, H⟩
    · obtain ⟨hun, oj, hoj, -⟩ := mem_ready.1 hj
      have hno := ready_nowait hr hj hoj
      have hjt : j ≠ t := by
        intro h
        subst h
        obtain ⟨d, hd, hb, hd2⟩ := ht oj hoj
        exact hno d hd hb hd2
      have h2 := wpOp_putIf hoj (hfree j oj hoj e hun hno) (fun cs b => hsel i oi cs b hi) (fun cs b => hsel j oj cs b hoj) hQ hy (H.2 j (ready_mono hj e))
      refine wpOp_mono (fun a' w' h3 => ⟨fun _ => h3.2.1 hjt, ih (L.setIfInBounds j true) a' w' (fun k ok hk hki hu hn => hfree k ok hk hki ?_ hn) (ready_mono hr (Ne.symm e)) h3.1 (h3.2.1 hjt) ?_⟩) h2
      · by_cases hjk : j = k
        · subst hjk; exact hun
        · rw [getD_set_ne true hjk] at hu; exact hu
      · rw [Array.setIfInBounds_comm _ _ e]
        exact h3.2.2

/-- Number i is taken first. -/
theorem AnyBut.take (i : Nat) {oi : Oper} {v : Value} {n : Nat} {L : Array Bool} {a : Act} {w : World} (hi : ops[i]? = some oi) (hs : Region.noSelect ops = true)
    (hf : Region.free md ops L i = true) (hr : (Region.ready md ops L).contains i = true)
    (ht : ((ops[t]?).all fun o => o.after.any fun e => Region.binds md e && e.on == i) = true) (hit : i ≠ t)
    (hQ : ∀ c a w, Q (.panic c) (a.put oi.dst v) w → Q (.panic c) a w) (hy : YieldsIf P ops S oi v a) (hS : S w)
    (h : AnyBut P md ops Q S t n (L.setIfInBounds i true) (a.put oi.dst v) w) : AnyBut P md ops Q S t (n + 1) L a w := by
  refine AnyBut.first hi hs hQ (fun o ho => ?_) hit n L a w (Region.free_spec hi hf) (by simpa using hr) hy hS h
  rw [ho] at ht
  have h2 : ∃ k, ∃ h : k < o.after.size, Region.binds md o.after[k] = true ∧ o.after[k].on = i := by simpa using ht
  obtain ⟨k, hk, hb⟩ := h2
  exact ⟨_, Array.getElem_mem hk, hb.1, hb.2⟩

/-- Number i alone may come up. -/
theorem AnyBut.one (i : Nat) {oi : Oper} {n : Nat} {L : Array Bool} {a : Act} {w : World} (hi : ops[i]? = some oi) (hr : Region.ready md ops L = [i]) (hw : Region.wanted oi (yielded ops a.tmps) = true)
    (h : oi.wp P a w (fun a' w' => (i ≠ t → S w') ∧ AnyBut P md ops Q S t n (L.setIfInBounds i true) a' w') Q) : AnyBut P md ops Q S t (n + 1) L a w :=
  ⟨fun h0 => absurd (hr.symm.trans h0) (by simp), fun j hj => (by
    rw [hr] at hj
    have e : j = i := by simpa using hj
    rw [e]
    unfold wpOp
    simp only [hi, hw, if_true]
    exact .inl h)⟩

theorem AnyBut.done {L : Array Bool} {a : Act} {w : World} (hr : Region.ready md ops L = []) (h : Q .normal a w) : AnyBut P md ops Q S t 0 L a w := ⟨hr, h⟩

theorem yields_of {o : Oper} {v : Value} {a : Act} (h1 : Region.wanted o (yielded ops a.tmps) = true) (h : ∀ w, S w → (execOp a.eval o).run P w = .ok (.value v) w) : YieldsIf P ops S o v a := .inl ⟨h1, h⟩

theorem AnyBut.region {id : Nat} {a : Act} {w : World} (S : World → Prop) (t : Nat) (hm : P.follows .mixedOrders = true)
    (h : AnyBut P .any ops Q S t ops.size (Array.replicate ops.size false) a { w with drawn := w.drawn + 1 }) : (Code.region id ops true).wp P Q a w :=
  wp_region_any hm (AnyBut.any _ _ _ _ h)

end
end Go.Proofs.Ythpfhcelmddjlaa

namespace Go.Proofs.Ythpfhcelmddjlaa
open Go.RowKit Fl
set_option maxRecDepth 100000

/-- The rows 'rows', each in a block of its own. -/
structure ORows (w : World) (B : Nat) (v : Value) (vs : List Value) (rows : List (List Int)) : Prop where
  own : w.ownsRow B 51 1 v vs.length vs
  len : vs.length = rows.length
  row : ∀ i (h1 : i < vs.length) (h2 : i < rows.length), w.ownsRow B 3 1 vs[i] rows[i].length (ivals rows[i])
  apart : ∀ i j (h1 : i < vs.length) (h2 : j < vs.length), i ≠ j → ∀ k, vs[i].ownBlock = some k → vs[j].ownBlock ≠ some k

def OwnRows (w : World) (B : Nat) (v : Value) (rows : List (List Int)) : Prop := ∃ vs, ORows w B v vs rows

theorem OwnRows.nil (w : World) (B : Nat) : OwnRows w B (.slice none 0 0) [] :=
  ⟨[], World.ownsRow_nil _ _ _ _, rfl, fun i h1 _ => absurd h1 (by simp), fun i j h1 _ => absurd h1 (by simp)⟩

theorem OwnRows.is {w : World} {B : Nat} {v : Value} {rows : List (List Int)} (h : OwnRows w B v rows) : IsRows w v rows := by
  obtain ⟨vs, h⟩ := h
  exact ⟨vs, Tl.of_own h.own, h.len, fun i h1 h2 => Tl.of_own (h.row i h1 h2)⟩

/-- Two owned rows of unlike types are two blocks. -/
theorem own_apart {w : World} {B B' : Nat} {t t' : TypeId} {s s' n n' : Nat} {v v' : Value} {xs xs' : List Value} (h : w.ownsRow B t s v n xs) (h' : w.ownsRow B' t' s' v' n' xs') (ht : t ≠ t') : v.ownBlock = none ∨ v.ownBlock ≠ v'.ownBlock := by
  rcases h.2 with ⟨rfl, _⟩ | ⟨g, cap, cur, rfl, _, hh, _⟩
  · exact Or.inl rfl
  · right
    intro e
    rcases h'.2 with ⟨rfl, _⟩ | ⟨g', cap', cur', rfl, _, hh', _⟩
    · cases e
    · have e2 : g = g' := by simpa [Value.ownBlock] using e
      subst e2
      rw [hh] at hh'
      injection hh' with hh'
      injection hh' with _ hh' _
      exact ht hh'

theorem ORows.grown {w w' : World} {B : Nat} {v : Value} {vs : List Value} {rows : List (List Int)} {r : Option Nat} (h : ORows w B v vs rows) (hg : w.grownBy w' r) (hr : ∀ k, r = some k → k < B) : ORows w' B v vs rows := by
  have key : ∀ (t : TypeId) (n : Nat) (u : Value) (xs : List Value), w.ownsRow B t 1 u n xs → w'.ownsRow B t 1 u n xs := fun t n u xs ho => by
    refine ho.kept hg ?_
    cases e : u.ownBlock with
    | none => exact Or.inl rfl
    | some k => exact Or.inr fun e2 => by have h1 := (ho.lt k e).1; have h2 := hr k e2.symm; omega
  exact ⟨key _ _ _ _ h.own, h.len, fun i h1 h2 => key _ _ _ _ (h.row i h1 h2), h.apart⟩

theorem ORows.alloc {w : World} {B : Nat} {v : Value} {vs : List Value} {rows : List (List Int)} (h : ORows w B v vs rows) (o : Obj) : ORows (w.alloc o) B v vs rows :=
  ⟨h.own.alloc o, h.len, fun i h1 h2 => (h.row i h1 h2).alloc o, h.apart⟩

theorem ORows.drew {w : World} {B : Nat} {v : Value} {vs : List Value} {rows : List (List Int)} (h : ORows w B v vs rows) : ORows w.drew B v vs rows :=
  ⟨h.own, h.len, h.row, h.apart⟩

theorem ORows.set {w : World} {B : Nat} {v : Value} {vs : List Value} {rows : List (List Int)} (h : ORows w B v vs rows) {a : Addr} (ha : a.block < B) (u : Value) : ORows (w.setCell a u) B v vs rows := by
  have key : ∀ (t : TypeId) (n : Nat) (z : Value) (xs : List Value), w.ownsRow B t 1 z n xs → (w.setCell a u).ownsRow B t 1 z n xs := fun t n z xs ho =>
    own_far ho (fun e => by have := (ho.lt _ e).1; omega) u
  exact ⟨key _ _ _ _ h.own, h.len, fun i h1 h2 => key _ _ _ _ (h.row i h1 h2), h.apart⟩

theorem ORows.one {w : World} {B : Nat} {v : Value} {vs : List Value} {rows : List (List Int)} (h : ORows w B v vs rows) : ∀ u ∈ vs, u.oneCell' = true := by
  intro u hu
  obtain ⟨i, hi, rfl⟩ := List.getElem_of_mem hu
  obtain ⟨A, c, e⟩ := own_slice (h.row i hi (by rw [← h.len]; exact hi))
  rw [e]; rfl

/-- One row more, behind the others. -/
theorem ORows.push {w w' : World} {B : Nat} {v v' : Value} {vs : List Value} {rows : List (List Int)} {u : Value} {xs : List Int} (h : ORows w B v vs rows)
    (hu : w.ownsRow B 3 1 u xs.length (ivals xs)) (hnew : ∀ g, u.ownBlock = some g → ∀ i (h1 : i < vs.length), vs[i].ownBlock ≠ some g)
    (hv : w'.ownsRow B 51 1 v' (vs.length + 1) (vs ++ [u])) (hw : w.grownBy w' v.ownBlock) : ORows w' B v' (vs ++ [u]) (rows ++ [xs]) := by
  refine ⟨by simpa using hv, by simp [h.len], ?_, ?_⟩
  · intro i h1 h2
    rcases Nat.lt_or_ge i vs.length with c | c
    · have c2 : i < rows.length := by rw [← h.len]; exact c
      rw [List.getElem_append_left c, List.getElem_append_left c2]
      exact (h.row i c c2).kept hw (own_apart (h.row i c c2) h.own (by decide))
    · have e : i = vs.length := by simp at h1; omega
      subst e
      have e2 : (rows ++ [xs])[vs.length]'h2 = xs := by simp [h.len]
      simp only [List.getElem_concat_length, e2]
      exact hu.kept hw (own_apart hu h.own (by decide))
  · intro i j h1 h2 hij k hk
    rcases Nat.lt_or_ge i vs.length with c | c <;> rcases Nat.lt_or_ge j vs.length with c' | c'
    · rw [List.getElem_append_left c] at hk
      rw [List.getElem_append_left c']
      exact h.apart i j c c' hij k hk
    · rw [List.getElem_append_left c] at hk
      have e : j = vs.length := by simp at h2; omega
      subst e
      simp only [List.getElem_concat_length]
      intro hk2
      exact hnew k hk2 i c hk
    · have e : i = vs.length := by simp at h1; omega
      subst e
      simp only [List.getElem_concat_length] at hk
      rw [List.getElem_append_left c']
      exact hnew k hk j c'
    · simp at h1 h2; omega

theorem KeptL.grownN {w w' : World} (h : KeptL [] w w') : w.grownBy w' none := ⟨h.os, h.tape, h.output, h.size, fun k hk _ => h.block k hk (by simp)⟩

theorem set_last {α : Type} (l : List α) (x : α) (n : Nat) (h : l.length = n + 1) : l.set n x = l.dropLast ++ [x] := by
  rcases List.eq_nil_or_concat l with rfl | ⟨l', a, rfl⟩
  · simp at h
  · have : l'.length = n := by simpa using h
    subst this
    simp

/-- One number more in the last row. -/
theorem ORows.last {w w' : World} {B g2 c2 n : Nat} {vs : List Value} {rows : List (List Int)} {u u' : Value} {xs : List Int} {x : Int} {g : Nat} (h : ORows w B (.slice (some ⟨g2, 0, none⟩) (n + 1) c2) vs rows)
    (hn : rows.length = n + 1) (hxs : rows[n]? = some xs) (hu : vs[n]? = some u)
    (hown : w'.ownsRow B 3 1 u' (xs.length + 1) (ivals (xs ++ [x]))) (hg : u'.ownBlock = some g) (hw : w.grownBy w' u.ownBlock) (hl : u.ownBlock = some g ∨ w.heap.size ≤ g) :
    ORows (w'.setCell ⟨g2, n, none⟩ u') B (.slice (some ⟨g2, 0, none⟩) (n + 1) c2) (vs.set n u') (putLast rows x) := by
  have hvl : vs.length = n + 1 := by rw [h.len, hn]
  have hun : vs[n]'(by omega) = u := by rw [List.getElem?_eq_getElem (by omega)] at hu; exact Option.some.inj hu
  have hxn : rows[n]'(by omega) = xs := by rw [List.getElem?_eq_getElem (by omega)] at hxs; exact Option.some.inj hxs
  have hru := h.row n (by omega) (by omega)
  rw [hun, hxn] at hru
  have hown2 : w'.ownsRow B 51 1 (.slice (some ⟨g2, 0, none⟩) (n + 1) c2) (n + 1) vs := by
    have := h.own
    rw [hvl] at this
    refine this.kept hw ?_
    rcases own_apart this hru (by decide) with e | e
    · exact Or.inl e
    · exact Or.inr e
  have hst := (hown2.stored n u').1
  have hset : ∀ (t : Nat) (z : Value) (zs : List Value), w'.ownsRow B 3 1 z t zs → (w'.setCell ⟨g2, n, none⟩ u').ownsRow B 3 1 z t zs := fun t z zs ho => by
    refine own_far ho (fun e => ?_) _
    rcases own_apart ho hown2 (by decide) with e1 | e1
    · rw [e] at e1; cases e1
    · exact e1 (by rw [e]; rfl)
  have hpl : (putLast rows x).length = n + 1 := by unfold putLast; simp [hn]
  have hge : putLast rows x = rows.set n (xs ++ [x]) := by
    rw [set_last rows _ n hn]
    unfold putLast
    have : rows.getLast? = some xs := by rw [List.getLast?_eq_getElem?, hn]; exact hxs
    rw [this]; rfl
  refine ⟨by simpa [hvl] using hst, by rw [hge]; simp [h.len], ?_, ?_⟩
  · intro i h1 h2
    have h1' : i < vs.length := by simpa using h1
    have h2' : i < rows.length := by rw [hpl] at h2; omega
    by_cases e : i = n
    · subst e
      have e1 : (putLast rows x)[i]'h2 = xs ++ [x] := by simp [hge]
      rw [List.getElem_set_self, e1]
      simp only [List.length_append, List.length_cons, List.length_nil, Nat.zero_add]
      exact hset _ _ _ hown
    · have e1 : (putLast rows x)[i]'h2 = rows[i] := by simp [hge, List.getElem_set_ne (Ne.symm e)]
      rw [List.getElem_set_ne (Ne.symm e), e1]
      refine hset _ _ _ ((h.row i h1' h2').kept hw ?_)
      cases eb : vs[i].ownBlock with
      | none => exact Or.inl rfl
      | some k => exact Or.inr fun e2 => h.apart i n h1' (by omega) e k eb (by rw [hun, ← e2])
  · have fresh : ∀ i (h1 : i < vs.length), i ≠ n → vs[i].ownBlock ≠ some g := fun i h1 hi e => by
      rcases hl with e2 | e2
      · exact h.apart i n h1 (by omega) hi g e (by rw [hun, e2])
      · have := ((h.row i h1 (by rw [← h.len]; exact h1)).lt g e).2
        omega
    intro i j h1 h2 hij k hk
    have h1' : i < vs.length := by simpa using h1
    have h2' : j < vs.length := by simpa using h2
    by_cases ei : i = n
    · subst ei
      rw [List.getElem_set_self, hg] at hk
      injection hk with hk
      subst hk
      rw [List.getElem_set_ne hij]
      exact fresh j h2' (Ne.symm hij)
    · rw [List.getElem_set_ne (Ne.symm ei)] at hk
      by_cases ej : j = n
      · subst ej
        rw [List.getElem_set_self, hg]
        intro e
        injection e with e
        subst e
        exact fresh i h1' ei hk
      · rw [List.getElem_set_ne (Ne.symm ej)]
        exact h.apart i j h1' h2' hij k hk

theorem makeSecs_len (d : Dr) (es : List (Int × Int)) : ∀ i, (makeSecs d es i).length = i
  | 0 => rfl
  | i + 1 => by rw [makeSecs, List.length_append, makeSecs_len d es i]; rfl

theorem makeParts_join {d : Dr} {i : Nat} (h : joins d i = true) : makeParts d (i + 1) = putLast (makeParts d i) (i : Int) := by rw [makeParts, if_pos h]
theorem makeParts_new {d : Dr} {i : Nat} (h : ¬ joins d i = true) : makeParts d (i + 1) = makeParts d i ++ [[(i : Int)]] := by rw [makeParts, if_neg h]

theorem makeParts_pos (d : Dr) (i : Nat) (h : 0 < i) : 0 < (makeParts d i).length := by
  cases i with
  | zero => omega
  | succ i =>
    unfold makeParts
    split
    · unfold putLast; simp
    · simp

theorem makeParts_le (d : Dr) : ∀ i, (makeParts d i).length ≤ i ∧ ∀ r ∈ makeParts d i, r.length ≤ i ∧ ∀ x ∈ r, 0 ≤ x ∧ x < i := by
  intro i
  induction i with
  | zero => exact ⟨Nat.le_refl _, fun r hr => absurd hr (by simp [makeParts])⟩
  | succ i ih =>
    obtain ⟨h1, h2⟩ := ih
    have up : ∀ r ∈ makeParts d i, r.length ≤ i + 1 ∧ ∀ x ∈ r, 0 ≤ x ∧ x < ((i + 1 : Nat) : Int) := fun r hr => by
      obtain ⟨a, b⟩ := h2 r hr
      exact ⟨by omega, fun x hx => by have := b x hx; omega⟩
    unfold makeParts
    split
    · rename_i hj
      have hp : 0 < i := by unfold joins at hj; simp at hj; exact hj.1
      have hpos := makeParts_pos d i hp
      unfold putLast
      refine ⟨by simp; omega, fun r hr => ?_⟩
      rcases List.mem_append.1 hr with c | c
      · exact up r (List.dropLast_subset _ c)
      · rw [List.mem_singleton] at c
        subst c
        cases e : (makeParts d i).getLast? with
        | none => simp at e; rw [e] at hpos; simp at hpos
        | some z =>
          have hz := List.mem_of_getLast? e
          obtain ⟨a, b⟩ := h2 z hz
          simp only [Option.getD_some, List.length_append, List.length_cons, List.length_nil]
          refine ⟨by omega, fun x hx => ?_⟩
          rcases List.mem_append.1 hx with c | c
          · have := b x c; omega
          · rw [List.mem_singleton] at c; omega
    · refine ⟨by simp; omega, fun r hr => ?_⟩
      rcases List.mem_append.1 hr with c | c
      · exact up r c
      · rw [List.mem_singleton] at c
        subst c
        refine ⟨by simp, fun x hx => ?_⟩
        rw [List.mem_singleton] at hx; omega

/-- A layout stored into a result. -/
theorem put10 {U : World} {n : Nat} {z0 z1 z2 z3 z4 z5 z6 z7 z8 z9 : Value} (h : Row U n 33 #[z0, z1, z2, z3, z4, z5, z6, z7, z8, z9]) (c0 c1 c2 c3 c4 c5 c6 c7 c8 c9 : Value) : Row ((((((((((U.setCell ⟨n, 0, none⟩ c0).setCell ⟨n, 1, none⟩ c1).setCell ⟨n, 2, none⟩ c2).setCell ⟨n, 3, none⟩ c3).setCell ⟨n, 4, none⟩ c4).setCell ⟨n, 5, none⟩ c5).setCell ⟨n, 6, none⟩ c6).setCell ⟨n, 7, none⟩ c7).setCell ⟨n, 8, none⟩ c8).setCell ⟨n, 9, none⟩ c9) n 33 #[c0, c1, c2, c3, c4, c5, c6, c7, c8, c9] ∧ Below n U ((((((((((U.setCell ⟨n, 0, none⟩ c0).setCell ⟨n, 1, none⟩ c1).setCell ⟨n, 2, none⟩ c2).setCell ⟨n, 3, none⟩ c3).setCell ⟨n, 4, none⟩ c4).setCell ⟨n, 5, none⟩ c5).setCell ⟨n, 6, none⟩ c6).setCell ⟨n, 7, none⟩ c7).setCell ⟨n, 8, none⟩ c8).setCell ⟨n, 9, none⟩ c9) ∧ KeptL [n] U ((((((((((U.setCell ⟨n, 0, none⟩ c0).setCell ⟨n, 1, none⟩ c1).setCell ⟨n, 2, none⟩ c2).setCell ⟨n, 3, none⟩ c3).setCell ⟨n, 4, none⟩ c4).setCell ⟨n, 5, none⟩ c5).setCell ⟨n, 6, none⟩ c6).setCell ⟨n, 7, none⟩ c7).setCell ⟨n, 8, none⟩ c8).setCell ⟨n, 9, none⟩ c9) := by
  have r0 : Row (U.setCell ⟨n, 0, none⟩ c0) n 33 #[c0, z1, z2, z3, z4, z5, z6, z7, z8, z9] := h.set 0 c0
  have r1 : Row ((U.setCell ⟨n, 0, none⟩ c0).setCell ⟨n, 1, none⟩ c1) n 33 #[c0, c1, z2, z3, z4, z5, z6, z7, z8, z9] := r0.set 1 c1
  have r2 : Row (((U.setCell ⟨n, 0, none⟩ c0).setCell ⟨n, 1, none⟩ c1).setCell ⟨n, 2, none⟩ c2) n 33 #[c0, c1, c2, z3, z4, z5, z6, z7, z8, z9] := r1.set 2 c2
  have r3 : Row ((((U.setCell ⟨n, 0, none⟩ c0).setCell ⟨n, 1, none⟩ c1).setCell ⟨n, 2, none⟩ c2).setCell ⟨n, 3, none⟩ c3) n 33 #[c0, c1, c2, c3, z4, z5, z6, z7, z8, z9] := r2.set 3 c3
  have r4 : Row (((((U.setCell ⟨n, 0, none⟩ c0).setCell ⟨n, 1, none⟩ c1).setCell ⟨n, 2, none⟩ c2).setCell ⟨n, 3, none⟩ c3).setCell ⟨n, 4, none⟩ c4) n 33 #[c0, c1, c2, c3, c4, z5, z6, z7, z8, z9] := r3.set 4 c4
  have r5 : Row ((((((U.setCell ⟨n, 0, none⟩ c0).setCell ⟨n, 1, none⟩ c1).setCell ⟨n, 2, none⟩ c2).setCell ⟨n, 3, none⟩ c3).setCell ⟨n, 4, none⟩ c4).setCell ⟨n, 5, none⟩ c5) n 33 #[c0, c1, c2, c3, c4, c5, z6, z7, z8, z9] := r4.set 5 c5
  have r6 : Row (((((((U.setCell ⟨n, 0, none⟩ c0).setCell ⟨n, 1, none⟩ c1).setCell ⟨n, 2, none⟩ c2).setCell ⟨n, 3, none⟩ c3).setCell ⟨n, 4, none⟩ c4).setCell ⟨n, 5, none⟩ c5).setCell ⟨n, 6, none⟩ c6) n 33 #[c0, c1, c2, c3, c4, c5, c6, z7, z8, z9] := r5.set 6 c6
  have r7 : Row ((((((((U.setCell ⟨n, 0, none⟩ c0).setCell ⟨n, 1, none⟩ c1).setCell ⟨n, 2, none⟩ c2).setCell ⟨n, 3, none⟩ c3).setCell ⟨n, 4, none⟩ c4).setCell ⟨n, 5, none⟩ c5).setCell ⟨n, 6, none⟩ c6).setCell ⟨n, 7, none⟩ c7) n 33 #[c0, c1, c2, c3, c4, c5, c6, c7, z8, z9] := r6.set 7 c7
  have r8 : Row (((((((((U.setCell ⟨n, 0, none⟩ c0).setCell ⟨n, 1, none⟩ c1).setCell ⟨n, 2, none⟩ c2).setCell ⟨n, 3, none⟩ c3).setCell ⟨n, 4, none⟩ c4).setCell ⟨n, 5, none⟩ c5).setCell ⟨n, 6, none⟩ c6).setCell ⟨n, 7, none⟩ c7).setCell ⟨n, 8, none⟩ c8) n 33 #[c0, c1, c2, c3, c4, c5, c6, c7, c8, z9] := r7.set 8 c8
  have r9 : Row ((((((((((U.setCell ⟨n, 0, none⟩ c0).setCell ⟨n, 1, none⟩ c1).setCell ⟨n, 2, none⟩ c2).setCell ⟨n, 3, none⟩ c3).setCell ⟨n, 4, none⟩ c4).setCell ⟨n, 5, none⟩ c5).setCell ⟨n, 6, none⟩ c6).setCell ⟨n, 7, none⟩ c7).setCell ⟨n, 8, none⟩ c8).setCell ⟨n, 9, none⟩ c9) n 33 #[c0, c1, c2, c3, c4, c5, c6, c7, c8, c9] := r8.set 9 c9
  have k0 : ∀ (W : World) (j : Nat) (u : Value), Below n U W → Below n U (W.setCell ⟨n, j, none⟩ u) := fun W j u hb => hb.setCell (p := ⟨n, j, none⟩) (Nat.le_refl _) u
  have k1 : Below n U ((((((((((U.setCell ⟨n, 0, none⟩ c0).setCell ⟨n, 1, none⟩ c1).setCell ⟨n, 2, none⟩ c2).setCell ⟨n, 3, none⟩ c3).setCell ⟨n, 4, none⟩ c4).setCell ⟨n, 5, none⟩ c5).setCell ⟨n, 6, none⟩ c6).setCell ⟨n, 7, none⟩ c7).setCell ⟨n, 8, none⟩ c8).setCell ⟨n, 9, none⟩ c9) := by
    repeat' apply k0
    exact Below.refl n U
  refine ⟨r9, k1, k1.os, k1.tape, k1.output, k1.size, fun k hk hn => ?_⟩
  have e : ∀ (W : World) (j : Nat) (u : Value), (World.setCell W ⟨n, j, none⟩ u).heap[k]? = W.heap[k]? := fun W j u => Below.heap_setCell W _ u k (by simpa using hn)
  simp only [e]

/-- What Make hands back. -/
def RetMake (d : Dr) (w : World) (e : Ending) (w' : World) : Prop :=
  ∃ vN vS vP vQ, e = .returned (.agg #[vN, vS, vP, vQ, .slice none 0 0, .int .i64 (makeL d).speed, .int .i64 (makeL d).mute, .int .i64 (makeL d).wait, .int .i64 (makeL d).cancel, .int .i64 (makeL d).stay]) ∧ Five w' vN vS vP vQ (.slice none 0 0) (makeL d) ∧ Below w.heap.size w w'

def RetLay (L : Lay) (w : World) (e : Ending) (w' : World) : Prop := ∃ v, e = .returned v ∧ LayV w' w'.heap.size v L ∧ Below w.heap.size w w'

end Go.Proofs.Ythpfhcelmddjlaa

namespace Go.Proofs.Ythpfhcelmddjlaa
open Go.RowKit Fl
set_option maxRecDepth 100000

/-- Make's own variables. -/
structure Mk (W : World) (n0 b1 b2 : Nat) (D C : Array Value) : Prop where
  dr : Row W n0 25 D
  res : Row W b1 33 #[.slice none 0 0, .slice none 0 0, .slice none 0 0, .slice none 0 0, .slice none 0 0, .int .i64 0, .int .i64 0, .int .i64 0, .int .i64 0, .int .i64 0]
  lay : Row W b2 33 C
  ne : b1 ≠ b2 ∧ n0 ≠ b1 ∧ n0 ≠ b2

theorem mk_of (w : World) (D : Array Value) : Mk (((w.alloc (.cells D 25)).alloc (.cells #[.slice none 0 0, .slice none 0 0, .slice none 0 0, .slice none 0 0, .slice none 0 0, .int .i64 0, .int .i64 0, .int .i64 0, .int .i64 0, .int .i64 0] 33)).alloc (.cells #[.slice none 0 0, .slice none 0 0, .slice none 0 0, .slice none 0 0, .slice none 0 0, .int .i64 0, .int .i64 0, .int .i64 0, .int .i64 0, .int .i64 0] 33)) w.heap.size (w.heap.size + 1) (w.heap.size + 1 + 1) D #[.slice none 0 0, .slice none 0 0, .slice none 0 0, .slice none 0 0, .slice none 0 0, .int .i64 0, .int .i64 0, .int .i64 0, .int .i64 0, .int .i64 0] := by
  have r1 := Row.new w 25 D
  have r2 := Row.new (w.alloc (.cells D 25)) 33 #[.slice none 0 0, .slice none 0 0, .slice none 0 0, .slice none 0 0, .slice none 0 0, .int .i64 0, .int .i64 0, .int .i64 0, .int .i64 0, .int .i64 0]
  have r3 := Row.new ((w.alloc (.cells D 25)).alloc (.cells #[.slice none 0 0, .slice none 0 0, .slice none 0 0, .slice none 0 0, .slice none 0 0, .int .i64 0, .int .i64 0, .int .i64 0, .int .i64 0, .int .i64 0] 33)) 33 #[.slice none 0 0, .slice none 0 0, .slice none 0 0, .slice none 0 0, .slice none 0 0, .int .i64 0, .int .i64 0, .int .i64 0, .int .i64 0, .int .i64 0]
  simp only [World.size_alloc] at r1 r2 r3
  exact ⟨(r1.alloc _).alloc _, r2.alloc _, r3, by omega⟩

def FillE (cur : Array Value) (xs : List (Int × Int)) : Prop := ∀ j (h : j < xs.length), cur[j * 2]? = some (.int .i64 xs[j].1) ∧ cur[j * 2 + 1]? = some (.int .i64 xs[j].2)
/-- Pairs of numbers. -/
def Ends (w : World) (v : Value) (xs : List (Int × Int)) : Prop := ∃ (A : Option Addr) (c : Nat), v = .slice A xs.length c ∧ (0 < xs.length → ∃ b cur fr, A = some ⟨b, 0, none⟩ ∧ w.heap[b]? = some (.cells cur 90 fr) ∧ FillE cur xs)

theorem Ends.kept {w w' : World} {v : Value} {zs : List (Int × Int)} {S : List Nat} (h : Ends w v zs) (hk : KeptL S w w') (ho : Other w 90 S) : Ends w' v zs := by
  obtain ⟨A, c, hv, hx⟩ := h
  refine ⟨A, c, hv, fun hp => ?_⟩
  obtain ⟨b, cur, fr, hA, hh, hc⟩ := hx hp
  exact ⟨b, cur, fr, hA, (hk.block b (heap_lt hh) (ho.ne hh)).trans hh, hc⟩

theorem Mk.fresh {W W' : World} {n0 b1 b2 : Nat} {D C : Array Value} (h : Mk W n0 b1 b2 D C) (hb : Below W.heap.size W W') : Mk W' n0 b1 b2 D C := ⟨Below.row hb h.dr h.dr.lt, Below.row hb h.res h.res.lt, Below.row hb h.lay h.lay.lt, h.ne⟩
theorem Mk.set {W : World} {n0 b1 b2 : Nat} {D C : Array Value} (h : Mk W n0 b1 b2 D C) (i : Nat) (u : Value) : Mk (W.setCell ⟨b2, i, none⟩ u) n0 b1 b2 D (C.setIfInBounds i u) :=
  ⟨h.dr.far (p := ⟨b2, i, none⟩) h.ne.2.2 u, h.res.far (p := ⟨b2, i, none⟩) h.ne.1 u, h.lay.set i u, h.ne⟩
theorem Mk.grown {W W' : World} {n0 b1 b2 B : Nat} {D C : Array Value} {row : Option Nat} (h : Mk W n0 b1 b2 D C) (hg : W.grownBy W' row) (hr : ∀ k, row = some k → B ≤ k) (h0 : n0 < B ∧ b1 < B ∧ b2 < B) : Mk W' n0 b1 b2 D C :=
  ⟨h.dr.grown hg (fun e => by have := hr n0 e.symm; omega), h.res.grown hg (fun e => by have := hr b1 e.symm; omega), h.lay.grown hg (fun e => by have := hr b2 e.symm; omega), h.ne⟩

/-- What the draft's form gives. -/
def Sw (w W : World) (n0 b1 b2 : Nat) (D : Array Value) (d : Dr) (v7 : Value) : Prop :=
  ∃ vN vQ, Mk W n0 b1 b2 D #[vN, .slice none 0 0, .slice none 0 0, vQ, .slice none 0 0, .int .i64 0, .int .i64 0, .int .i64 0, .int .i64 0, .int .i64 0] ∧ IsNodes W vN (makeNodes d) ∧ IsPoints W vQ (makePoints d) ∧ Ends W v7 (makeEnds d) ∧ Below n0 w W

theorem Try.info90 : (Try.prog.info? 90).map (fun i => (i.zero, i.size, i.bytes)) = some (some (.agg #[.int .i64 0, .int .i64 0]), 2, 16) := by kernel_rfl

def ecells (xs : List (Int × Int)) : List Value := xs.flatMap fun s => [.int .i64 s.1, .int .i64 s.2]
theorem ecells_snoc (xs : List (Int × Int)) (x : Int × Int) : ecells xs ++ [.int .i64 x.1, .int .i64 x.2] = ecells (xs ++ [x]) := by simp [ecells]
theorem ecells_get (xs : List (Int × Int)) : ∀ j (h : j < xs.length), (ecells xs)[j * 2]? = some (.int .i64 xs[j].1) ∧ (ecells xs)[j * 2 + 1]? = some (.int .i64 xs[j].2) := by
  induction xs with
  | nil => intro j h; simp at h
  | cons a r ih =>
    intro j h
    have e : ecells (a :: r) = .int .i64 a.1 :: .int .i64 a.2 :: ecells r := by simp [ecells]
    cases j with
    | zero => rw [e]; simp
    | succ j =>
      rw [e]
      obtain ⟨h1, h2⟩ := ih j (by simpa using h)
      have e1 : (j + 1) * 2 = j * 2 + 2 := by omega
      rw [e1]
      simp only [List.getElem?_cons_succ, List.getElem_cons_succ]
      exact ⟨h1, h2⟩

theorem Ends.of_own {w : World} {base n : Nat} {v : Value} {xs : List (Int × Int)} (h : w.ownsRow base 90 2 v n (ecells xs)) (hn : xs.length = n) : Ends w v xs := by
  subst hn
  rcases h.2 with ⟨rfl, h0⟩ | ⟨g, cap, cur, hv, _, hh, _⟩
  · exact ⟨none, 0, by rw [h0], fun hp => by omega⟩
  · subst hv
    refine ⟨_, _, rfl, fun _ => ⟨g, cur, (0, 0), rfl, hh, fun j hj => ?_⟩⟩
    obtain ⟨a, b⟩ := ecells_get xs j hj
    exact ⟨own_cur h hh _ _ a, own_cur h hh _ _ b⟩

theorem Mk.kept {W W' : World} {n0 b1 b2 : Nat} {D C : Array Value} (h : Mk W n0 b1 b2 D C) (hk : KeptL [] W W') : Mk W' n0 b1 b2 D C := ⟨hk.row h.dr (by simp), hk.row h.res (by simp), hk.row h.lay (by simp), h.ne⟩

def nodeAt (d : Dr) (i : Nat) : Int × Int := (((unit d * i : Nat) : Int), 0)
def endAt (i : Nat) : Int × Int := ((i : Int), (i : Int) + 1)
theorem IsPoints.nil (w : World) : IsPoints w (.slice none 0 0) [] := ⟨none, 0, rfl, fun h => absurd h (by simp)⟩

theorem cell_alloc {w : World} {a : Addr} {v : Value} {o : Obj} (h : w.cell? a = some v) : (w.alloc o).cell? a = some v := by rw [World.cell?_alloc_some w a o (by rw [h]; rfl)]; exact h

theorem Mk.away {W : World} {n0 b1 b2 : Nat} {D C : Array Value} (h : Mk W n0 b1 b2 D C) {p : Addr} (h0 : n0 ≠ p.block ∧ b1 ≠ p.block ∧ b2 ≠ p.block) (u : Value) : Mk (W.setCell p u) n0 b1 b2 D C := ⟨h.dr.far h0.1 u, h.res.far h0.2.1 u, h.lay.far h0.2.2 u, h.ne⟩
theorem KeptL.setNew {S : List Nat} {a w : World} (h : KeptL S a w) {p : Addr} (hp : a.heap.size ≤ p.block) (u : Value) : KeptL S a (w.setCell p u) :=
  ⟨h.os, h.tape, h.output, by simpa [World.setCell] using h.size, fun k hk hn => (Below.heap_setCell w p u k (by omega)).trans (h.block k hk hn)⟩
theorem ivals_snoc' (xs : List Int) (x : Int) : ivals xs ++ [.int .i64 x] = ivals (xs ++ [x]) := by simp [ivals]


end Go.Proofs.Ythpfhcelmddjlaa
