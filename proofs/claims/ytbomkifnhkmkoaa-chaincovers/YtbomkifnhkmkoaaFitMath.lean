/- Pure: may a report be so? -/
import Derived.Test.YtbomkifnhkmkoaaBMath
import Derived.Test.YtbomkifnhkmkoaaNA
namespace Go.Proofs.Ytbomkifnhkmkoaa
open Go.RowKit Fl
set_option maxRecDepth 100000

/-- Through some sections: the end at which the last one is left. -/
def thruL (L : Lay) : Int × Int → List Int → Option (Int × Int)
  | e, [] => some e
  | e, n :: r => match inL (aroundL L e) n with
    | none => none
    | some i => thruL L (n, 1 - ((aroundL L e).getD i (0, 0)).2) r
theorem thruL_none {L : Lay} {e : Int × Int} {n : Int} {r : List Int} (h : inL (aroundL L e) n = none) : thruL L e (n :: r) = none := by rw [thruL, h]
theorem thruL_some {L : Lay} {e : Int × Int} {n : Int} {r : List Int} {i : Nat} (h : inL (aroundL L e) n = some i) : thruL L e (n :: r) = thruL L (n, 1 - ((aroundL L e).getD i (0, 0)).2) r := by rw [thruL, h]
theorem thru_way (L : Lay) : ∀ (p : List Int) (e : Int × Int), (wayL L e p).isSome = (thruL L e p).isSome
  | [], e => rfl
  | n :: r, e => by
    cases h : inL (aroundL L e) n with
    | none => rw [wayL_none h, thruL_none h]; rfl
    | some i => rw [wayL_some h, thruL_some h, Option.isSome_map]; exact thru_way L r _
theorem thru_app (L : Lay) (q : List Int) : ∀ (p : List Int) (e : Int × Int), thruL L e (p ++ q) = (thruL L e p).bind (fun e' => thruL L e' q)
  | [], e => rfl
  | n :: r, e => by
    rw [List.cons_append]
    cases h : inL (aroundL L e) n with
    | none => rw [thruL_none h, thruL_none h]; rfl
    | some i => rw [thruL_some h, thruL_some h]; exact thru_app L q r _
theorem thruL_se {L M : Lay} (h : SE L.secs M.secs) (hp : L.points = M.points) : ∀ (e : Int × Int) (p : List Int), thruL L e p = thruL M e p
  | _, [] => rfl
  | e, n :: r => by
    rw [thruL, thruL, aroundL_se h hp]
    split
    · rfl
    · rw [thruL_se h hp]

/-- A track on which one comes back, and where there is no choice. -/
structure Tame (L : Lay) : Prop where
  back : ∀ (s : Nat), s < L.secs.length → ∀ k : Int, k = 0 ∨ k = 1 → ∀ x ∈ aroundL L ((s : Int), k), ((s : Int), k) ∈ aroundL L x
  one : ∀ (s : Nat), s < L.secs.length → ∀ k : Int, k = 0 ∨ k = 1 → ∀ x ∈ aroundL L ((s : Int), k), ∀ y ∈ aroundL L ((s : Int), k), x.1 = y.1 → x = y
  side : ∀ (s : Nat), s < L.secs.length → ∀ x ∈ aroundL L ((s : Int), 0), ∀ y ∈ aroundL L ((s : Int), 1), x.1 ≠ y.1
  in_ : ∀ (s : Nat), s < L.secs.length → ∀ k : Int, k = 0 ∨ k = 1 → ∀ x ∈ aroundL L ((s : Int), k), ∃ n : Nat, x.1 = (n : Int) ∧ n < L.secs.length
  len : ∀ (n : Nat), n < L.secs.length → 0 < lenL L.secs (n : Int)
def tameB (L : Lay) : Bool := (List.range L.secs.length).all fun s =>
  ([(0 : Int), 1].all fun k => (aroundL L ((s : Int), k)).all fun x => (aroundL L x).contains ((s : Int), k) && ((aroundL L ((s : Int), k)).all (fun y => !(x.1 == y.1) || (x == y))) && (decide (0 ≤ x.1) && decide (x.1 < (L.secs.length : Int)))) &&
  ((aroundL L ((s : Int), 0)).all fun x => (aroundL L ((s : Int), 1)).all fun y => !(x.1 == y.1))
theorem tame_shapes : ∀ f : Fin 24, tameB (makeL (dOf f.val)) = true := by decide +kernel

theorem around_out {L : Lay} {e : Int × Int} (h : ¬ (0 ≤ e.1 ∧ e.1 < (L.secs.length : Int))) : aroundL L e = [] := by
  have hh : hasB L.secs e.1 = false := by
    unfold hasB
    rw [Bool.eq_false_iff]
    intro c
    simp only [Bool.and_eq_true, decide_eq_true_eq] at c
    exact h c
  unfold aroundL nodeL
  rw [hh]
  rfl

theorem len_pos (d : Dr) : ∀ n, n < (fullL d).secs.length → 0 < lenL (fullL d).secs (n : Int) := by
  intro n hn
  have e : (fullL d).secs.length = (makeEnds d).length := makeSecs_len d _ _
  have h1 : lenL (fullL d).secs (n : Int) = ((fullL d).secs.getD n (0, 0, 0)).1 := by
    unfold lenL hasB
    rw [if_pos (by simp; omega)]; simp
  rw [h1]
  have key : ∀ (m i : Nat), i < m → 0 < ((makeSecs d (makeEnds d) m).getD i (0, 0, 0)).1 := by
    intro m
    induction m with
    | zero => intro i hi; omega
    | succ m ih =>
      intro i hi
      have l := makeSecs_len d (makeEnds d) m
      simp only [makeSecs, List.getD]
      rcases Nat.lt_or_ge i m with c | c
      · rw [List.getElem?_append_left (by omega)]
        have := ih i c
        simpa only [List.getD] using this
      · have e2 : i = m := by omega
        rw [List.getElem?_append_right (by omega), l, e2, Nat.sub_self]
        have hu : 0 < unit d := by unfold unit; omega
        simp
        omega
  exact key _ n (by omega)

theorem tame_full (d : Dr) : Tame (fullL d) := by
  have h := tame_shapes ⟨d.form % 24, Nat.mod_lt _ (by decide)⟩
  have e := shape_se d
  have p := shape_pts d
  have hl : (fullL d).secs.length = (makeL (dOf (d.form % 24))).secs.length := e.1
  have ha : ∀ x, aroundL (fullL d) x = aroundL (makeL (dOf (d.form % 24))) x := aroundL_se e p
  have hs : ∀ s, s < (fullL d).secs.length → _ := fun s hs => List.all_eq_true.1 h s (List.mem_range.2 (by rw [← hl]; exact hs))
  have hk : ∀ s, s < (fullL d).secs.length → ∀ k : Int, k = 0 ∨ k = 1 → ∀ x ∈ aroundL (makeL (dOf (d.form % 24))) ((s : Int), k), _ := fun s h1 k hk x hx => by
    have h2 := hs s h1
    rw [Bool.and_eq_true] at h2
    exact List.all_eq_true.1 (List.all_eq_true.1 h2.1 k (by rcases hk with rfl | rfl <;> simp)) x hx
  refine ⟨fun s h1 k hk0 x hx => ?_, fun s h1 k hk0 x hx y hy hxy => ?_, fun s h1 x hx y hy => ?_, fun s h1 k hk0 x hx => ?_, len_pos d⟩
  · rw [ha] at hx ⊢
    have h3 := hk s h1 k hk0 x hx
    simp only [Bool.and_eq_true] at h3
    exact List.contains_iff_mem.1 h3.1.1
  · rw [ha] at hx hy
    have h3 := hk s h1 k hk0 x hx
    simp only [Bool.and_eq_true] at h3
    have h4 := List.all_eq_true.1 h3.1.2 y hy
    rw [Bool.or_eq_true] at h4
    rcases h4 with h4 | h4
    · rw [Bool.not_eq_true', beq_eq_false_iff_ne] at h4; exact absurd hxy h4
    · exact eq_of_beq h4
  · rw [ha] at hx hy
    have h2 := hs s h1
    rw [Bool.and_eq_true] at h2
    have h4 := List.all_eq_true.1 (List.all_eq_true.1 h2.2 x hx) y hy
    rw [Bool.not_eq_true', beq_eq_false_iff_ne] at h4; exact h4
  · rw [ha] at hx
    have h3 := hk s h1 k hk0 x hx
    simp only [Bool.and_eq_true, decide_eq_true_eq] at h3
    refine ⟨x.1.toNat, by omega, ?_⟩
    rw [hl]; omega

def flipE (e : Int × Int) : Int × Int := (e.1, 1 - e.2)
def okE (L : Lay) (e : Int × Int) : Prop := ∃ s : Nat, e.1 = (s : Int) ∧ s < L.secs.length ∧ (e.2 = 0 ∨ e.2 = 1)
theorem okE_out {L : Lay} {e : Int × Int} (hk : e.2 = 0 ∨ e.2 = 1) (h : ¬ okE L e) : aroundL L e = [] := around_out fun c => h ⟨e.1.toNat, by omega, by omega, hk⟩
theorem inL_get {xs : List (Int × Int)} {n : Int} {i : Nat} (h : inL xs n = some i) : ∃ hi : i < xs.length, xs[i].1 = n := by
  have h2 := inL_lt h
  unfold inL at h
  rw [List.findIdx?_eq_some_iff_getElem] at h
  exact ⟨h2, by simpa using h.2.1⟩
theorem inL_mem {xs : List (Int × Int)} {x : Int × Int} (h : x ∈ xs) : ∃ i, inL xs x.1 = some i := by
  cases e : inL xs x.1 with
  | some i => exact ⟨i, rfl⟩
  | none =>
    unfold inL at e
    rw [List.findIdx?_eq_none_iff] at e
    have := e x h
    simp at this
/-- One step through a tame track. -/
theorem thru_step {L : Lay} (T : Tame L) {e x : Int × Int} (he : okE L e) (hx : x ∈ aroundL L e) (r : List Int) : thruL L e (x.1 :: r) = thruL L (x.1, 1 - x.2) r := by
  obtain ⟨i, hi⟩ := inL_mem hx
  rw [thruL_some hi]
  obtain ⟨hl, hg⟩ := inL_get hi
  obtain ⟨a, b⟩ := e
  obtain ⟨s, h1, h2, h3⟩ := he
  simp only at h1 h3
  subst h1
  have := T.one s h2 b h3 _ (List.getElem_mem hl) _ hx hg
  have hd : (aroundL L ((s : Int), b)).getD i (0, 0) = (aroundL L ((s : Int), b))[i] := by simp [List.getD, hl]
  rw [hd, this]
theorem thru_inv {L : Lay} {e out : Int × Int} {n : Int} {r : List Int} (h : thruL L e (n :: r) = some out) : ∃ x ∈ aroundL L e, x.1 = n ∧ thruL L (n, 1 - x.2) r = some out := by
  cases hi : inL (aroundL L e) n with
  | none => rw [thruL_none hi] at h; cases h
  | some i =>
    rw [thruL_some hi] at h
    obtain ⟨hl, hg⟩ := inL_get hi
    have hd : (aroundL L e).getD i (0, 0) = (aroundL L e)[i] := by simp [List.getD, hl]
    rw [hd] at h
    exact ⟨_, List.getElem_mem _, hg, h⟩
theorem okE_next {L : Lay} (T : Tame L) {e x : Int × Int} (he : okE L e) (hx : x ∈ aroundL L e) : okE L x ∧ okE L (x.1, 1 - x.2) := by
  obtain ⟨s, h1, h2, h3⟩ := he
  have e2 : e = ((s : Int), e.2) := by rw [← h1]
  have hs := aroundL_snd L e x hx
  rw [e2] at hx
  obtain ⟨n, hn, hnl⟩ := T.in_ s h2 e.2 h3 x hx
  exact ⟨⟨n, hn, hnl, hs⟩, ⟨n, hn, hnl, by rcases hs with c | c <;> simp [c]⟩⟩
/-- The way back. -/
theorem thru_rev {L : Lay} (T : Tame L) : ∀ (p : List Int) (e out : Int × Int), okE L e → thruL L e p = some out → okE L out ∧ thruL L (flipE out) ((p.reverse ++ [e.1]).drop 1) = some (flipE e)
  | [], e, out, he, h => by
    have : e = out := by injection h
    subst this
    exact ⟨he, rfl⟩
  | n :: r, e, out, he, h => by
    obtain ⟨x, hx, hn, h2⟩ := thru_inv h
    subst hn
    obtain ⟨ho1, ho2⟩ := okE_next T he hx
    obtain ⟨hok, hr⟩ := thru_rev T r _ out ho2 h2
    refine ⟨hok, ?_⟩
    have hback : e ∈ aroundL L x := by
      obtain ⟨s, h1, h3, h4⟩ := he
      have e2 : e = ((s : Int), e.2) := by rw [← h1]
      rw [e2] at hx ⊢
      exact T.back s h3 e.2 h4 x hx
    have hd : (((x.1 :: r).reverse ++ [e.1]).drop 1) = ((r.reverse ++ [x.1]).drop 1) ++ [e.1] := by
      rw [List.reverse_cons, List.drop_append_of_le_length (by simp)]
    rw [hd, thru_app, hr]
    have hf : flipE (x.1, 1 - x.2) = x := by unfold flipE; rcases x with ⟨a, b⟩; simp; omega
    rw [hf]
    show thruL L x (e.1 :: []) = some (flipE e)
    rw [thru_step T ho1 hback]
    rfl


/-- A report, as the laws make it. -/
structure Msg where
  train : Int
  time : Int
  dir : Int
  ahead : Int
  whole : Bool
  trail : List Int

/-- The end at which a train that came through leaves; of none: (0, 0). -/
def outL (L : Lay) (a : Int) (r : List Int) : Int × Int := match thruL L (a, 0) r with
  | some o => o
  | none => (thruL L (a, 1) r).getD (0, 0)
/-- The program's: does it come out there? -/
def comesB (L : Lay) (t : List Int) (d : Int) : Bool := (pathL L t.reverse).isSome && decide ((outL L (t.reverse.getD 0 0) (t.reverse.drop 1)).2 = d)
/-- The program's: may a report be so? -/
def fitsP (L : Lay) (t : List Int) (d a : Int) : Bool :=
  (decide (0 < t.length ∧ t.length ≤ 12)) && ((decide (d = 0 ∨ d = 1)) && (decide (¬ lenL L.secs (t.getD 0 0) = 0 ∧ 0 ≤ a ∧ a ≤ lenL L.secs (t.getD 0 0)) && (decide (t.length = 1) || comesB L t d)))
/-- The document's. -/
def fitsR (L : Lay) (t : List Int) (d a : Int) : Bool :=
  (decide (0 < t.length ∧ t.length ≤ 12 ∧ (d = 0 ∨ d = 1) ∧ 0 ≤ a ∧ (riseL t).length = t.length)) && ((t.all fun x => !(lenL L.secs x == 0)) && (decide (a ≤ lenL L.secs (t.getD 0 0)) && (thruL L (t.getD 0 0, 1 - d) (t.drop 1)).isSome))

theorem thru_last {L : Lay} : ∀ (p : List Int) (e out : Int × Int), thruL L e p = some out → out.1 = (p.getLast?.getD e.1)
  | [], e, out, h => by injection h with h; subst h; rfl
  | n :: r, e, out, h => by
    obtain ⟨x, hx, hn, h2⟩ := thru_inv h
    rw [thru_last r _ _ h2]
    cases r with
    | nil => rfl
    | cons a b =>
      rw [List.getLast?_cons_cons, List.getLast?_eq_some_getLast (List.cons_ne_nil a b)]
      rfl
theorem thru_all {L : Lay} (T : Tame L) : ∀ (p : List Int) (e out : Int × Int), okE L e → thruL L e p = some out → ∀ x ∈ p, ∃ n : Nat, x = (n : Int) ∧ n < L.secs.length
  | [], _, _, _, _, x, hx => by simp at hx
  | n :: r, e, out, he, h, x, hx => by
    obtain ⟨y, hy, hn, h2⟩ := thru_inv h
    subst hn
    obtain ⟨⟨k, h3, h4, _⟩, ho2⟩ := okE_next T he hy
    rcases List.mem_cons.1 hx with rfl | hx
    · exact ⟨k, h3, h4⟩
    · exact thru_all T r _ _ ho2 h2 x hx
theorem thru_ok {L : Lay} {e out : Int × Int} {n : Int} {r : List Int} (hk : e.2 = 0 ∨ e.2 = 1) (h : thruL L e (n :: r) = some out) : okE L e := by
  refine Classical.byContradiction fun c => ?_
  obtain ⟨x, hx, _⟩ := thru_inv h
  rw [okE_out hk c] at hx
  simp at hx
theorem ways_some (L : Lay) (a : Int) (r : List Int) : (ways L a r).isSome = ((thruL L (a, 0) r).isSome || (thruL L (a, 1) r).isSome) := by
  have h0 := thru_way L r (a, 0)
  have h1 := thru_way L r (a, 1)
  unfold ways
  cases e : wayL L (a, 0) r with
  | some x => rw [e] at h0; rw [← h0]; rfl
  | none => rw [e] at h0; rw [← h0, ← h1]; rfl

/-- THE TWO ARE ONE, on a tame track. -/
theorem fits_eq {L : Lay} (T : Tame L) (t : List Int) (d a : Int) : fitsP L t d a = fitsR L t d a := by
  rw [Bool.eq_iff_iff]
  unfold fitsP fitsR
  simp only [Bool.and_eq_true, Bool.or_eq_true, decide_eq_true_eq]
  match t with
  | [] => simp
  | [x] =>
    have hr : (riseL [x]).length = [x].length := (riseL_len [x]).2 (by simp)
    constructor
    · rintro ⟨⟨h1, h2⟩, h3, ⟨h4, h5, h6⟩, _⟩
      exact ⟨⟨h1, h2, h3, h5, hr⟩, by simpa using h4, h6, rfl⟩
    · rintro ⟨⟨h1, h2, h3, h5, _⟩, h4, h6, _⟩
      exact ⟨⟨h1, h2⟩, h3, ⟨by simpa using h4, h5, h6⟩, Or.inl rfl⟩
  | x :: y :: r =>
    have hne : ¬ (x :: y :: r).length = 1 := by simp
    obtain ⟨z, q, hrev⟩ : ∃ z q, (x :: y :: r).reverse = z :: q := by
      cases e : (x :: y :: r).reverse with
      | nil => simp at e
      | cons z q => exact ⟨z, q, rfl⟩
    have hql : q.length = (y :: r).length := by
      have := congrArg List.length hrev
      simp at this ⊢; omega
    obtain ⟨u, v, hq⟩ : ∃ u v, q = u :: v := by
      cases q with
      | nil => simp at hql
      | cons u v => exact ⟨u, v, rfl⟩
    have hfor : ∀ e out, okE L e → e.1 = x → thruL L e (y :: r) = some out → out.1 = z ∧ okE L out ∧ thruL L (flipE out) q = some (flipE e) := by
      intro e out he hx h
      obtain ⟨h1, h2⟩ := thru_rev T _ _ _ he h
      have h3 : ((y :: r).reverse ++ [e.1]) = z :: q := by rw [hx, ← List.reverse_cons, hrev]
      rw [h3] at h2
      refine ⟨?_, h1, by simpa using h2⟩
      have h4 := thru_last _ _ _ h
      have h5 : (y :: r).getLast? = some z := by
        have : (x :: y :: r).getLast? = some z := by rw [← List.head?_reverse, hrev]; rfl
        rw [List.getLast?_cons_cons] at this; exact this
      rw [h5] at h4; exact h4
    have hbak : ∀ e out, okE L e → e.1 = z → thruL L e q = some out → out.1 = x ∧ okE L out ∧ thruL L (flipE out) (y :: r) = some (flipE e) := by
      intro e out he hx h
      obtain ⟨h1, h2⟩ := thru_rev T _ _ _ he h
      have h3 : (q.reverse ++ [e.1]) = x :: y :: r := by rw [hx, ← List.reverse_cons, ← hrev, List.reverse_reverse]
      rw [h3] at h2
      refine ⟨?_, h1, by simpa using h2⟩
      have h4 := thru_last _ _ _ h
      have h5 : q.getLast? = some x := by
        have : (z :: q).getLast? = some x := by rw [← hrev, List.getLast?_reverse]; rfl
        rw [hq, List.getLast?_cons_cons] at this; rw [hq]; exact this
      rw [h5] at h4; exact h4
    have hpath : (pathL L (z :: q)).isSome = true ↔ ((x :: y :: r).Nodup ∧ ((thruL L (z, 0) q).isSome = true ∨ (thruL L (z, 1) q).isSome = true)) := by
      have hp : pathL L (z :: q) = if (z :: q).length < 2 ∨ (riseL (z :: q)).length < (z :: q).length then none else ways L z q := rfl
      have hlen : ¬ (z :: q).length < 2 := by rw [hq]; simp
      have hnd : (riseL (z :: q)).length = (z :: q).length ↔ (x :: y :: r).Nodup := by
        rw [riseL_len, ← hrev]; exact (List.reverse_perm (x :: y :: r)).nodup_iff
      have hle := riseL_le (z :: q)
      rw [hp]
      by_cases hn : (x :: y :: r).Nodup
      · have := hnd.2 hn
        rw [if_neg (by omega), ways_some, Bool.or_eq_true]
        exact ⟨fun h => ⟨hn, h⟩, fun h => h.2⟩
      · have : (riseL (z :: q)).length < (z :: q).length := by
          have : (riseL (z :: q)).length ≠ (z :: q).length := fun c => hn (hnd.1 c)
          omega
        rw [if_pos (Or.inr this)]
        simp [hn]
    have hside : ∀ o o', thruL L (z, 0) q = some o → thruL L (z, 1) q = some o' → False := by
      intro o o' h h'
      rw [hq] at h h'
      obtain ⟨s, h1, h2, _⟩ := thru_ok (Or.inl rfl) h
      simp only at h1
      subst h1
      obtain ⟨a1, ha1, hb1, _⟩ := thru_inv h
      obtain ⟨a2, ha2, hb2, _⟩ := thru_inv h'
      exact T.side s h2 a1 ha1 a2 ha2 (by rw [hb1, hb2])
    have hndr : (riseL (x :: y :: r)).length = (x :: y :: r).length ↔ (x :: y :: r).Nodup := riseL_len _
    constructor
    · rintro ⟨⟨h1, h2⟩, h3, ⟨h4, h5, h6⟩, h7⟩
      rcases h7 with h7 | h7
      · exact absurd h7 hne
      · unfold comesB at h7
        rw [hrev] at h7
        simp only [Bool.and_eq_true, decide_eq_true_eq] at h7
        obtain ⟨h8, h9⟩ := h7
        obtain ⟨hn, hw⟩ := hpath.1 h8
        have h9' : (outL L z q).2 = d := h9
        obtain ⟨e, o, he1, he2, ho, hod⟩ : ∃ e o, e.1 = z ∧ (e.2 = 0 ∨ e.2 = 1) ∧ thruL L e q = some o ∧ o.2 = d := by
          unfold outL at h9'
          cases h0 : thruL L (z, 0) q with
          | some o => rw [h0] at h9'; exact ⟨_, o, rfl, Or.inl rfl, h0, h9'⟩
          | none =>
            rw [h0] at h9' hw
            rcases hw with hw | hw
            · cases hw
            · obtain ⟨o, ho⟩ := Option.isSome_iff_exists.1 hw
              rw [ho] at h9'
              exact ⟨_, o, rfl, Or.inr rfl, ho, h9'⟩
        have hke : okE L e := by rw [hq] at ho; exact thru_ok he2 ho
        obtain ⟨g1, g2, g3⟩ := hbak e o hke he1 ho
        have g4 : flipE o = (x, 1 - d) := by unfold flipE; rw [g1, hod]
        rw [g4] at g3
        have hko : okE L (x, 1 - d) := by
          obtain ⟨s, k1, k2, k3⟩ := g2
          rw [← g4]; exact ⟨s, k1, k2, by unfold flipE; rcases k3 with c | c <;> simp [c]⟩
        have hall := thru_all T _ _ _ hko g3
        obtain ⟨s, k1, k2, _⟩ := hko
        refine ⟨⟨h1, h2, h3, h5, hndr.2 hn⟩, ?_, h6, by rw [Option.isSome_iff_exists]; exact ⟨_, g3⟩⟩
        rw [List.all_eq_true]
        intro w hw2
        obtain ⟨n, rfl, hnl⟩ : ∃ n : Nat, w = (n : Int) ∧ n < L.secs.length := by
          rcases List.mem_cons.1 hw2 with rfl | hw2
          · exact ⟨s, k1, k2⟩
          · exact hall w hw2
        have := T.len n hnl
        simp; omega
    · rintro ⟨⟨h1, h2, h3, h5, hn⟩, h4, h6, h7⟩
      have hn' := hndr.1 hn
      have h4x : ¬ lenL L.secs x = 0 := by
        have := List.all_eq_true.1 h4 x (by simp)
        simpa using this
      refine ⟨⟨h1, h2⟩, h3, ⟨h4x, h5, h6⟩, Or.inr ?_⟩
      obtain ⟨out, ho⟩ := Option.isSome_iff_exists.1 h7
      have ho' : thruL L (x, 1 - d) (y :: r) = some out := ho
      have hko : okE L (x, 1 - d) := thru_ok (by rcases h3 with c | c <;> simp [c]) ho'
      obtain ⟨g1, g2, g3⟩ := hfor _ out hko rfl ho'
      have g4 : flipE (x, 1 - d) = (x, d) := by unfold flipE; simp; omega
      rw [g4] at g3
      obtain ⟨s, k1, k2, k3⟩ := g2
      have g5 : flipE out = (z, 1 - out.2) := by unfold flipE; rw [g1]
      rw [g5] at g3
      unfold comesB
      rw [hrev]
      simp only [Bool.and_eq_true, decide_eq_true_eq]
      rcases k3 with c | c
      · rw [c] at g3
        have g6 : thruL L (z, 1) q = some (x, d) := g3
        refine ⟨hpath.2 ⟨hn', Or.inr (by rw [g6]; rfl)⟩, ?_⟩
        show (outL L z q).2 = d
        unfold outL
        cases h0 : thruL L (z, 0) q with
        | some o => exact absurd (hside o _ h0 g6) id
        | none => rw [g6]; rfl
      · rw [c] at g3
        have g6 : thruL L (z, 0) q = some (x, d) := g3
        refine ⟨hpath.2 ⟨hn', Or.inl (by rw [g6]; rfl)⟩, ?_⟩
        show (outL L z q).2 = d
        unfold outL
        rw [g6]

end Go.Proofs.Ytbomkifnhkmkoaa
