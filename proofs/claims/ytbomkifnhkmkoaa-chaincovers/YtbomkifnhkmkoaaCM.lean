/- Layer 11, the pure side: where a train may be. -/
import Derived.Test.YtbomkifnhkmkoaaNX
import Derived.Test.YtbomkifnhkmkoaaFitMath
import Derived.Test.YtbomkifnhkmkoaaF1
namespace Go.Proofs.Ytbomkifnhkmkoaa
open Go.RowKit Fl
set_option maxRecDepth 100000

abbrev tcells (a b c d e : Int) (v : Value) : Array Value := #[.int .i64 a, .int .i64 b, .int .i64 c, .int .i64 d, .int .i64 e, v]

theorem walkGo_thru {L : Lay} (T : Tame L) (ts : List Nat) (m : Nat) (k : Int) : ∀ f i o e, o.Nodup → 0 < o.length → okE L e → (∀ x ∈ o, ∃ n : Nat, x = (n : Int) ∧ n < L.secs.length) → thruL L (o.getD 0 0, k) (o.drop 1) = some e →
    (walkGo L ts m f i o e).Nodup ∧ (∀ x ∈ walkGo L ts m f i o e, ∃ n : Nat, x = (n : Int) ∧ n < L.secs.length) ∧ (thruL L ((walkGo L ts m f i o e).getD 0 0, k) ((walkGo L ts m f i o e).drop 1)).isSome = true
  | 0, i, o, e, h1, h2, h3, h4, h5 => ⟨h1, h4, by rw [walkGo, h5]; rfl⟩
  | f + 1, i, o, e, h1, h2, h3, h4, h5 => by
    rw [walkGo]
    split
    · exact ⟨h1, h4, by rw [h5]; rfl⟩
    · split
      · exact ⟨h1, h4, by rw [h5]; rfl⟩
      · split
        · exact ⟨h1, h4, by rw [h5]; rfl⟩
        · rename_i x hx hc
          have hmem := List.mem_of_getElem? hx
          have hn := okE_next T h3 hmem
          refine walkGo_thru T ts m k f (i + 1) (o ++ [x.1]) (x.1, 1 - x.2) ?_ (by simp) hn.2 ?_ ?_
          · rw [List.nodup_append]
            refine ⟨h1, by simp, ?_⟩
            intro a ha b hb
            simp only [List.mem_singleton] at hb
            subst hb
            intro e'
            subst e'
            exact hc (List.contains_iff_mem.2 ha)
          · intro y hy
            rw [List.mem_append] at hy
            rcases hy with hy | hy
            · exact h4 y hy
            · simp only [List.mem_singleton] at hy
              subst hy
              obtain ⟨s, hs, hl, _⟩ := hn.1
              exact ⟨s, hs, hl⟩
          · have hg : (o ++ [x.1]).getD 0 0 = o.getD 0 0 := by
              show ((o ++ [x.1])[0]?).getD 0 = (o[0]?).getD 0
              rw [List.getElem?_append_left h2]
            rw [hg, List.drop_append_of_le_length h2, thru_app, h5]
            show thruL L e [x.1] = _
            rw [thru_step T h3 hmem]
            rfl

theorem walkGo_head (L : Lay) (ts : List Nat) (m : Nat) : ∀ f i o e, 0 < o.length → (walkGo L ts m f i o e).getD 0 0 = o.getD 0 0 ∧ 0 < (walkGo L ts m f i o e).length
  | 0, i, o, e, h => ⟨rfl, h⟩
  | f + 1, i, o, e, h => by
    rw [walkGo]
    split
    · exact ⟨rfl, h⟩
    · split
      · exact ⟨rfl, h⟩
      · split
        · exact ⟨rfl, h⟩
        · rename_i x _ _
          have h1 := walkGo_head L ts m f (i + 1) (o ++ [x.1]) (x.1, 1 - x.2) (by simp)
          refine ⟨h1.1.trans ?_, h1.2⟩
          show ((o ++ [x.1])[0]?).getD 0 = (o[0]?).getD 0
          rw [List.getElem?_append_left h]

theorem full_secs (d : Dr) : 0 < (fullL d).secs.length ∧ ∀ n, n < (fullL d).secs.length → 0 < lenL (fullL d).secs (n : Int) ∧ lenL (fullL d).secs (n : Int) ≤ 1000 := by
  have e : (fullL d).secs.length = (makeEnds d).length := makeSecs_len d _ _
  refine ⟨by have := makeEnds_len d; omega, fun n hn => ?_⟩
  have h1 : lenL (fullL d).secs (n : Int) = ((fullL d).secs.getD n (0, 0, 0)).1 := by
    unfold lenL hasB
    rw [if_pos (by simp; omega)]; simp
  rw [h1]
  have key : ∀ (m i : Nat), i < m → 0 < ((makeSecs d (makeEnds d) m).getD i (0, 0, 0)).1 ∧ ((makeSecs d (makeEnds d) m).getD i (0, 0, 0)).1 ≤ 1000 := by
    intro m
    induction m with
    | zero => intro i hi; omega
    | succ m ih =>
      intro i hi
      have l := makeSecs_len d (makeEnds d) m
      simp only [makeSecs, List.getD]
      rcases Nat.lt_or_ge i m with c | c
      · rw [List.getElem?_append_left (by omega)]
        have := ih i c
        simpa only [List.getD] using this
      · have e2 : i = m := by omega
        rw [List.getElem?_append_right (by omega), l, e2, Nat.sub_self]
        have hu := unit_bounds d
        simp
        omega
  exact key _ n (by omega)


theorem next_mem {L : Lay} {e x : Int × Int} {R : List Bool} (h : nextL L e R = some x) : x ∈ aroundL L e := by
  rw [next_eq] at h
  unfold nextR at h
  split at h
  · cases h
  · split at h
    · exact List.mem_of_mem_head? (by rw [h]; rfl)
    · unfold nextP at h
      split at h
      · exact List.mem_of_find?_eq_some h
      · split at h
        · exact List.mem_of_mem_head? (by rw [h]; rfl)
        · cases h

/-- Into which sections it may have come, the foremost last, and the end at which it leaves that one next. -/
def goA (L : Lay) (R : List Bool) (tr : List Int) : Nat → Int × Int → Int → List Int → List Int × (Int × Int)
  | 0, e, _, acc => (acc, e)
  | f + 1, e, m, acc => if m ≤ 0 then (acc, e) else match nextL L e R with
    | none => (acc, e)
    | some x => if tr.contains x.1 || acc.contains x.1 then (acc, e) else goA L R tr f (x.1, 1 - x.2) (m - lenL L.secs x.1) (acc ++ [x.1])

def InR (L : Lay) (x : Int) : Prop := ∃ n : Nat, x = (n : Int) ∧ n < L.secs.length
theorem inR_len {L : Lay} {acc : List Int} (nd : acc.Nodup) (h : ∀ x ∈ acc, InR L x) : acc.length ≤ L.secs.length := by
  have h1 := nodup_len_le acc ((List.range L.secs.length).map (fun n : Nat => (n : Int))) nd (fun x hx => by
    obtain ⟨n, rfl, hn⟩ := h x hx
    exact List.mem_map.2 ⟨n, List.mem_range.2 hn, rfl⟩)
  simpa using h1

/-- What the loop knows. -/
structure GoSt (L : Lay) (R : List Bool) (tr : List Int) (r : List Int × (Int × Int)) (e : Int × Int) (m : Int) (acc : List Int) : Prop where
  eq : ∃ f, goA L R tr f e m acc = r ∧ f + acc.length = L.secs.length + 1
  ok : okE L e
  nd : acc.Nodup
  inr : ∀ x ∈ acc, InR L x

theorem GoSt.len {L : Lay} {R : List Bool} {tr acc : List Int} {r : List Int × (Int × Int)} {e : Int × Int} {m : Int} (h : GoSt L R tr r e m acc) : acc.length ≤ L.secs.length := inR_len h.nd h.inr
theorem GoSt.stop {L : Lay} {R : List Bool} {tr acc : List Int} {r : List Int × (Int × Int)} {e : Int × Int} {m : Int} (h : GoSt L R tr r e m acc) (hm : m ≤ 0) : r = (acc, e) := by
  obtain ⟨f, hf, hl⟩ := h.eq
  cases f with
  | zero => rw [goA] at hf; exact hf.symm
  | succ f => rw [goA, if_pos hm] at hf; exact hf.symm
theorem GoSt.unfold {L : Lay} {R : List Bool} {tr acc : List Int} {r : List Int × (Int × Int)} {e : Int × Int} {m : Int} (h : GoSt L R tr r e m acc) (hm : 0 < m) : ∃ f, f + (acc.length + 1) = L.secs.length + 1 ∧
    r = (match nextL L e R with | none => (acc, e) | some x => if tr.contains x.1 || acc.contains x.1 then (acc, e) else goA L R tr f (x.1, 1 - x.2) (m - lenL L.secs x.1) (acc ++ [x.1])) := by
  obtain ⟨f, hf, hl⟩ := h.eq
  have h1 := h.len
  cases f with
  | zero => omega
  | succ f => rw [goA, if_neg (by omega)] at hf; exact ⟨f, by omega, hf.symm⟩
theorem GoSt.none {L : Lay} {R : List Bool} {tr acc : List Int} {r : List Int × (Int × Int)} {e : Int × Int} {m : Int} (h : GoSt L R tr r e m acc) (hm : 0 < m) (hn : nextL L e R = none) : r = (acc, e) := by
  obtain ⟨f, -, hr⟩ := h.unfold hm
  rw [hn] at hr; exact hr
theorem GoSt.seen {L : Lay} {R : List Bool} {tr acc : List Int} {r : List Int × (Int × Int)} {e x : Int × Int} {m : Int} (h : GoSt L R tr r e m acc) (hm : 0 < m) (hn : nextL L e R = some x) (hc : (tr.contains x.1 || acc.contains x.1) = true) : r = (acc, e) := by
  obtain ⟨f, -, hr⟩ := h.unfold hm
  rw [hn] at hr
  simp only at hr
  rw [if_pos hc] at hr; exact hr
theorem GoSt.step {L : Lay} (T : Tame L) {R : List Bool} {tr acc : List Int} {r : List Int × (Int × Int)} {e x : Int × Int} {m : Int} (h : GoSt L R tr r e m acc) (hm : 0 < m) (hn : nextL L e R = some x) (h1 : tr.contains x.1 = false) (h2 : acc.contains x.1 = false) :
    GoSt L R tr r (x.1, 1 - x.2) (m - lenL L.secs x.1) (acc ++ [x.1]) ∧ InR L x.1 := by
  obtain ⟨f, hf, hr⟩ := h.unfold hm
  rw [hn] at hr
  simp only at hr
  rw [h1, h2, if_neg (by decide)] at hr
  have hk := okE_next T h.ok (next_mem hn)
  have hx : InR L x.1 := by obtain ⟨s, h1, h2, -⟩ := hk.1; exact ⟨s, h1, h2⟩
  have hmem : x.1 ∉ acc := fun hc => by rw [List.contains_iff_mem.2 hc] at h2; cases h2
  refine ⟨⟨⟨f, hr.symm, by simp; omega⟩, hk.2, ?_, ?_⟩, hx⟩
  · rw [List.nodup_append]
    refine ⟨h.nd, by simp, ?_⟩
    intro a ha b hb
    simp only [List.mem_singleton] at hb
    subst hb
    intro e'; subst e'; exact hmem ha
  · intro y hy
    rcases List.mem_append.1 hy with hy | hy
    · exact h.inr y hy
    · simp only [List.mem_singleton] at hy; subst hy; exact hx

/-- The whole: of a train with a trail. -/
def aheadL (L : Lay) (R : List Bool) (tr : List Int) (d m : Int) : List Int × (Int × Int) :=
  if tr.length = 0 then ([], (-1, 0)) else goA L R tr (L.secs.length + 1) (tr.getD 0 0, d) m []
theorem GoSt.start {L : Lay} {R : List Bool} {tr : List Int} {d m : Int} (h0 : tr.length ≠ 0) (ok : okE L (tr.getD 0 0, d)) : GoSt L R tr (aheadL L R tr d m) (tr.getD 0 0, d) m [] :=
  ⟨⟨L.secs.length + 1, by unfold aheadL; rw [if_neg h0], by simp⟩, ok, by simp, by simp⟩

end Go.Proofs.Ytbomkifnhkmkoaa
