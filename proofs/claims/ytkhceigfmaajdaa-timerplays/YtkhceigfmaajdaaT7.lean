/- A table's timers as a list: which runs, which is stopped, how long it has left. Contracts: New, find, Stop, Len, Left. -/
import Derived.Test.YtkhceigfmaajdaaT6
namespace Go.Proofs.Ytkhceigfmaajdaa
open Go.RowKit
set_option maxRecDepth 100000

/-- The place of a timer. -/
def findL (l : List (Int × Int)) (id : Int) : Int :=
  match l.findIdx? (fun p => decide (p.1 = id)) with
  | some i => (i : Int)
  | none => -1
def hasL (l : List (Int × Int)) (id : Int) : Bool := l.any fun p => decide (p.1 = id)
def stopL (l : List (Int × Int)) (id : Int) : List (Int × Int) := l.filter fun p => !decide (p.1 = id)
def betw (now at_ : Int) : Int := if at_ ≤ now then 0 else if at_ - now ≤ 9223372036854775807 then at_ - now else 9223372036854775807
def leftL (l : List (Int × Int)) (id now : Int) : Int × Bool :=
  match l.find? (fun p => decide (p.1 = id)) with
  | some p => (betw now p.2, true)
  | none => (0, false)

/-- What a table's list always is. -/
structure Good (l : List (Int × Int)) : Prop where
  sorted : l.Pairwise ltT
  ids : (l.map Prod.fst).Nodup
  len : l.length ≤ 32

theorem findL_at {ps : List (Int × Int)} {n : Int} {i : Nat} (hi : i < ps.length) (h : ps[i].1 = n) (hb : ∀ j (hj : j < ps.length), j < i → ps[j].1 ≠ n) : findL ps n = (i : Int) := by
  unfold findL
  have e : ps.findIdx? (fun p => decide (p.1 = n)) = some i := by
    rw [List.findIdx?_eq_some_iff_getElem]
    exact ⟨hi, by simpa using h, fun j hj => by simpa using hb j (by omega) hj⟩
  rw [e]
theorem findL_none {ps : List (Int × Int)} {n : Int} (hb : ∀ j (hj : j < ps.length), ps[j].1 ≠ n) : findL ps n = -1 := by
  unfold findL
  have e : ps.findIdx? (fun p => decide (p.1 = n)) = none := by
    rw [List.findIdx?_eq_none_iff]
    intro x hx
    obtain ⟨j, hj, rfl⟩ := List.getElem_of_mem hx
    simpa using hb j hj
  rw [e]

/-- Where a timer stands, and what its place says. -/
theorem find_cases (l : List (Int × Int)) (hn : (l.map Prod.fst).Nodup) (id : Int) :
    (findL l id = -1 ∧ hasL l id = false ∧ stopL l id = l ∧ ∀ now, leftL l id now = (0, false)) ∨
    ∃ i, ∃ h : i < l.length, findL l id = (i : Int) ∧ hasL l id = true ∧ stopL l id = l.take i ++ l.drop (i + 1) ∧ ∀ now, leftL l id now = (betw now l[i].2, true) := by
  cases e : l.findIdx? (fun p => decide (p.1 = id)) with
  | none =>
    left
    have h := List.findIdx?_eq_none_iff.1 e
    refine ⟨by unfold findL; rw [e], ?_, ?_, fun now => ?_⟩
    · unfold hasL
      rw [List.any_eq_false]
      intro x hx; simpa using h x hx
    · unfold stopL
      rw [List.filter_eq_self]
      intro x hx
      have := h x hx
      simpa using this
    · unfold leftL
      have e2 : l.find? (fun p => decide (p.1 = id)) = none := by
        rw [List.find?_eq_none]; intro x hx; simpa using h x hx
      rw [e2]
  | some i =>
    right
    obtain ⟨hi, h1, h2⟩ := List.findIdx?_eq_some_iff_getElem.1 e
    have h1' : l[i].1 = id := by simpa using h1
    refine ⟨i, hi, by unfold findL; rw [e], ?_, ?_, fun now => ?_⟩
    · unfold hasL
      rw [List.any_eq_true]
      exact ⟨l[i], List.getElem_mem _, h1⟩
    · have hsplit : l = l.take i ++ l[i] :: l.drop (i + 1) := by
        rw [List.getElem_cons_drop, List.take_append_drop]
      have hne : ∀ j (hj : j < l.length), j ≠ i → l[j].1 ≠ id := by
        intro j hj hji hE
        have := (List.pairwise_iff_getElem.1 hn)
        rcases Nat.lt_or_ge j i with c | c
        · have := this j i (by simpa using hj) (by simpa using hi) c
          simp at this
          exact this (by rw [hE, h1'])
        · have := this i j (by simpa using hi) (by simpa using hj) (by omega)
          simp at this
          exact this (by rw [hE, h1'])
      unfold stopL
      conv => lhs; rw [hsplit]
      rw [List.filter_append, List.filter_cons]
      have e0 : (!decide (l[i].1 = id)) = false := by simp [h1']
      rw [if_neg (by rw [e0]; simp)]
      congr 1
      · rw [List.filter_eq_self]
        intro x hx
        obtain ⟨j, hj, rfl⟩ := List.getElem_of_mem hx
        rw [List.length_take] at hj
        simp only [List.getElem_take]
        simpa using hne j (by omega) (by omega)
      · rw [List.filter_eq_self]
        intro x hx
        obtain ⟨j, hj, rfl⟩ := List.getElem_of_mem hx
        rw [List.length_drop] at hj
        simp only [List.getElem_drop]
        simpa using hne (i + 1 + j) (by omega) (by omega)
    · unfold leftL
      have e2 : l.find? (fun p => decide (p.1 = id)) = some l[i] := by
        rw [List.find?_eq_some_iff_getElem]
        exact ⟨h1, i, hi, rfl, fun j hj => by simpa using h2 j hj⟩
      rw [e2]

theorem stop_good {l : List (Int × Int)} (h : Good l) (id : Int) : Good (stopL l id) :=
  ⟨h.sorted.filter _, (h.ids.sublist ((List.filter_sublist).map _)), Nat.le_trans (List.length_filter_le _ _) h.len⟩

/-- A table in memory: its block, its timers. -/
def Tab (w : World) (B g : Nat) (h : Option Nat) (l : List (Int × Int)) : Prop :=
  B ≤ g ∧ ∃ v, Row w g 57 #[v] ∧ w.ownsRow B 61 2 v l.length (ecells l) ∧ v.ownBlock = h

theorem Tab.below {w w' : World} {B g : Nat} {h : Option Nat} {l : List (Int × Int)} (ht : Tab w B g h l) (hb : Below w.heap.size w w') : Tab w' B g h l := by
  obtain ⟨hB, v, hr, ho, hv⟩ := ht
  exact ⟨hB, v, Below.row hb hr hr.lt, own_below ho hb, hv⟩

theorem new_any (w : World) : Calls Try.prog 10 #[] w fun e w' => e = .returned (.pointer (some ⟨w.heap.size, 0, none⟩)) ∧ Tab w' w.heap.size w.heap.size none [] ∧ Below w.heap.size w w' ∧ w'.heap.size = w.heap.size + 1 := by
  have HB := Lib.hid ((Below.refl w.heap.size w).alloc (Nat.le_refl _) (.cells #[.slice none 0 0] 57))
  have HT : Hid (Tab (w.alloc (.cells #[.slice none 0 0] 57)) w.heap.size w.heap.size none []) := ⟨Nat.le_refl _, _, Row.new _ _ _, World.ownsRow_nil _ _ _ _, rfl⟩
  go_enter Try.func10, Try.ntmps10
  go_wp2_with fail
  go_ret
  exact ⟨rfl, HT.out, HB.out, by simp⟩

theorem len_any (w : World) (B g : Nat) (h : Option Nat) (l : List (Int × Int)) (ht : Tab w B g h l) : Calls Try.prog 20 #[.pointer (some ⟨g, 0, none⟩)] w fun e w' => e = .returned (.int .i64 (l.length : Int)) ∧ w = w' := by
  obtain ⟨hB, v, hr, ho, hv⟩ := ht
  obtain ⟨A, c, rfl⟩ := own_slice ho
  have c0 := hr.cell 0
  simp only [List.getElem?_toArray, List.getElem?_cons_zero] at c0
  generalize l.length = n at *
  clear ho hr hv
  go_enter Try.func20, Try.ntmps20
  go_wp2_with fail
  go_ret
  exact ⟨rfl, rfl⟩

theorem len_nil (w : World) : Calls Try.prog 20 #[.pointer none] w fun e w' => e = .returned (.int .i64 0) ∧ w = w' := by
  go_enter Try.func20, Try.ntmps20
  go_wp2_with fail
  go_ret
  exact ⟨rfl, rfl⟩

theorem closure37 (w : World) (a b n : Int) (bx : Nat) (hx : w.cell? ⟨bx, 0, none⟩ = some (.int .i64 n)) :
    Calls Try.prog 37 #[.agg #[.int .i64 a, .int .i64 b], .pointer (some ⟨bx, 0, none⟩)] w fun e w' => e = .returned (.bool (a == n)) ∧ Below w.heap.size w w' := by
  have k0 := cell_alloc (o := .cells #[.int .i64 a, .int .i64 b] 61) hx
  have HB := Lib.hid ((Below.refl w.heap.size w).alloc (Nat.le_refl _) (.cells #[.int .i64 a, .int .i64 b] 61))
  clear hx
  go_enter Try.func37, Try.ntmps37
  go_wp2_with fail
  go_ret
  exact ⟨rfl, HB.out⟩

set_option maxHeartbeats 2000000 in
theorem indexFunc36 (w : World) (D bx : Nat) (v : Value) (ps : List (Int × Int)) (n : Int) (h : Ts w D v ps) (hD : D ≤ w.heap.size) (hl : ps.length ≤ 1000) (hx : w.cell? ⟨bx, 0, none⟩ = some (.int .i64 n)) (hbx : bx < w.heap.size) :
    Calls Try.prog 36 #[v, .func (.func 37) #[] #[.pointer (some ⟨bx, 0, none⟩)]] w fun e w' => e = .returned (.int .i64 (findL ps n)) ∧ Below w.heap.size w w' := by
  have HP := Lib.hid h
  obtain ⟨A, c, rfl, -⟩ := h
  have HX := Lib.hid hx
  clear hx
  obtain ⟨r, hr⟩ : ∃ r, findL ps n = r := ⟨_, rfl⟩
  rw [hr]
  have HR := Lib.hid hr
  clear hr
  obtain ⟨m, hm⟩ : ∃ m, ps.length = m := ⟨_, rfl⟩
  rw [hm] at HP hl ⊢
  have HM := Lib.hid hm
  clear hm
  obtain ⟨B0, hB0⟩ : ∃ n, n = w.heap.size := ⟨_, rfl⟩
  rw [← hB0] at hD hbx
  have HB0 := Lib.hid hB0
  clear hB0
  go_enter Try.func36, Try.ntmps36
  go_wp2_with fail
  go_loopw [8] (fun k wr => ∃ i : Nat, i ≤ m ∧ k = .int .i64 i ∧ Hid ((∀ j (hj : j < ps.length), j < i → ps[j].1 ≠ n) ∧ Below B0 w wr)) (fun k _ => m - (intOf k).toNat)
  case atStart => exact ⟨0, Nat.zero_le _, rfl, fun j _ hj => absurd hj (by omega), Below.refl _ _⟩
  case round =>
    obtain ⟨i, hi, rfl, HJ⟩ := hrel
    by_cases hlt : i < m
    · have him : i < ps.length := by have := HM.out; omega
      obtain ⟨b, o, rfl, hb, c0, c1⟩ := HP.out.at i him
      have lift : ∀ p : Addr, p.block < B0 → wr.cell? p = w.cell? p := fun p hp => HJ.out.2.cell (p := p) hp
      have e0 := (lift ⟨b, o + i * 2, none⟩ (by show b < B0; omega)).trans c0
      have e1 := (lift ⟨b, o + i * 2 + 1, none⟩ (by show b < B0; omega)).trans c1
      have HXR : Hid (wr.cell? ⟨bx, 0, none⟩ = some (.int .i64 n)) := (lift ⟨bx, 0, none⟩ hbx).trans HX.out
      have HQ1 : Hid (ps[i].1 = n → r = (i : Int)) := fun e => by rw [← HR.out]; exact findL_at him e HJ.out.1
      have HQ2 : Hid (ps[i].1 ≠ n → ∀ j (hj : j < ps.length), j < i + 1 → ps[j].1 ≠ n) := fun e j hj hji => by
        rcases Nat.lt_or_ge j i with c | c
        · exact HJ.out.1 j hj c
        · obtain rfl : j = i := by omega
          exact e
      clear lift c0 c1
      generalize ps[i] = z at *
      obtain ⟨z0, z1⟩ := z
      simp only at e0 e1 HQ1 HQ2
      go_wp2_with fail
      refine (closure37 wr z0 z1 n bx HXR.out).mono ?_; rintro e w1 ⟨rfl, hb1⟩
      have HB1 : Hid (Below B0 w w1) := HJ.out.2.trans (hb1.mono (by have := HJ.out.2.size; have := HB0.out; omega))
      clear hb1 e0 e1
      by_cases hz : z0 = n
      · have HF := Lib.hid (HQ1.out hz)
        subst hz
        go_wp2_with fail
        go_ret
        exact ⟨ret_int HF.out.symm, by rw [← HB0.out]; exact HB1.out⟩
      · have hz2 : (z0 == n) = false := by simpa using hz
        have HN2 := Lib.hid (HQ2.out hz)
        go_wp2_with fail
        go_roundw
        case rel => exact ⟨i + 1, by omega, by go_num, HN2.out, HB1.out⟩
        case measure => simp [intOf]; omega
    · have HF : Hid (r = -1) := by
        show _ = _
        rw [← HR.out]
        exact findL_none fun j hj => HJ.out.1 j hj (by have := HM.out; omega)
      go_wp2_with fail
      go_ret
      exact ⟨ret_int HF.out.symm, by rw [← HB0.out]; exact HJ.out.2⟩

set_option maxHeartbeats 1000000 in
theorem find_any (w : World) (B g : Nat) (h : Option Nat) (l : List (Int × Int)) (id : Int) (ht : Tab w B g h l) (hl : l.length ≤ 32) :
    Calls Try.prog 28 #[.pointer (some ⟨g, 0, none⟩), .int .i64 id] w fun e w' => e = .returned (.int .i64 (findL l id)) ∧ Below w.heap.size w w' := by
  have hb0 := (Below.refl w.heap.size w).alloc (Nat.le_refl _) (.cells #[.int .i64 id] 3)
  obtain ⟨hB, v, hr, ho, hv⟩ := ht.below hb0
  have f1 := hr.cell 0
  simp only [List.getElem?_toArray, List.getElem?_cons_zero] at f1
  have HQ := Lib.hid (Ts.of_own ho)
  have HB0 := Lib.hid hb0
  have HX : Hid ((w.alloc (.cells #[.int .i64 id] 3)).cell? ⟨w.heap.size, 0, none⟩ = some (.int .i64 id)) := by show _ = _; simp
  obtain ⟨A, c, rfl⟩ := own_slice ho
  clear hr ho ht hb0 hv
  go_enter Try.func28, Try.ntmps28
  go_wp2_with fail
  refine (indexFunc36 _ _ w.heap.size _ l id HQ.out (Nat.le_refl _) (by omega) HX.out (by simp)).mono ?_; rintro e w1 ⟨rfl, hb1⟩
  have HB1 := Lib.hid (HB0.out.trans (hb1.mono HB0.out.size))
  clear hb1
  go_wp2_with fail
  go_ret
  exact ⟨rfl, HB1.out⟩

theorem find_nil (w : World) (id : Int) : Calls Try.prog 28 #[.pointer none, .int .i64 id] w fun e w' => e = .returned (.int .i64 (-1)) ∧ Below w.heap.size w w' := by
  have HB := Lib.hid ((Below.refl w.heap.size w).alloc (Nat.le_refl _) (.cells #[.int .i64 id] 3))
  go_enter Try.func28, Try.ntmps28
  go_wp2_with fail
  go_ret
  exact ⟨rfl, HB.out⟩

theorem ecells_take (l : List (Int × Int)) (i : Nat) : (ecells l).take (i * 2) = ecells (l.take i) := by
  induction l generalizing i with
  | nil => simp [ecells]
  | cons x r ih =>
    cases i with
    | zero => simp [ecells]
    | succ i =>
      have := ih i
      simp only [ecells] at this
      simp [ecells, show (i + 1) * 2 = i * 2 + 1 + 1 by omega, this]
theorem ecells_drop (l : List (Int × Int)) (i : Nat) : (ecells l).drop (i * 2) = ecells (l.drop i) := by
  induction l generalizing i with
  | nil => simp [ecells]
  | cons x r ih =>
    cases i with
    | zero => simp
    | succ i =>
      have := ih i
      simp only [ecells] at this
      simp [ecells, show (i + 1) * 2 = i * 2 + 1 + 1 by omega, this]

/-- A new list of timers stored into a table. -/
theorem Tab.store {w w2 : World} {B g n : Nat} {h : Option Nat} {v v' : Value} {l' : List (Int × Int)} (hB : B ≤ g) (hr : Row w2 g 57 #[v]) (ho : w2.ownsRow B 61 2 v' n (ecells l')) (hn : n = l'.length) (hv : v'.ownBlock = h) (S : List Nat) (hk : KeptL S w w2) (hg : g ∈ S) :
    Tab (w2.setCell ⟨g, 0, none⟩ v') B g h l' ∧ KeptL S w (w2.setCell ⟨g, 0, none⟩ v') := by
  subst hn
  refine ⟨⟨hB, v', ?_, own_far ho (fun e => own_ne ho hr (by decide) e.symm) v', hv⟩, hk.set (p := ⟨g, 0, none⟩) hg v'⟩
  have := hr.set 0 v'
  simpa using this

theorem kept_apart {w w2 : World} {B g : Nat} {v : Value} {n : Nat} {xs : List Value} (hr : Row w g 57 #[v]) (ho : w.ownsRow B 61 2 v n xs) (hk : KeptL v.ownBlock.toList w w2) : Row w2 g 57 #[v] := by
  refine hk.row hr ?_
  intro hm
  have := own_ne ho hr (by decide)
  exact this (by simpa using Option.mem_toList.1 hm |>.symm)

set_option maxHeartbeats 2000000 in
theorem stop_any (w : World) (B g : Nat) (h : Option Nat) (l : List (Int × Int)) (id : Int) (ht : Tab w B g h l) (hl : Good l) :
    Calls Try.prog 15 #[.pointer (some ⟨g, 0, none⟩), .int .i64 id] w fun e w' => e = .returned (.bool (hasL l id)) ∧ Tab w' B g h (stopL l id) ∧ KeptL (g :: h.toList) w w' := by
  have HT := Lib.hid ht
  have hln := hl.len
  rcases find_cases l hl.ids id with ⟨f1, f2, f3, -⟩ | ⟨i, hi, f1, f2, f3, -⟩
  · rw [f2, f3]
    have HF := Lib.hid f1
    clear f1 f2 f3 ht hl
    go_enter Try.func15, Try.ntmps15
    go_wp2_with fail
    refine (find_any w B g h l id HT.out hln).mono ?_; rintro e w1 ⟨rfl, hb1⟩
    have HB1 := Lib.hid hb1
    clear hb1
    rw [HF.out]
    go_wp2_with fail
    go_ret
    exact ⟨rfl, HT.out.below HB1.out, KeptL.of_below HB1.out⟩
  · rw [f2, f3]
    have HF := Lib.hid f1
    clear f1 f2 f3 ht hl
    go_enter Try.func15, Try.ntmps15
    go_wp2_with fail
    refine (find_any w B g h l id HT.out hln).mono ?_; rintro e w1 ⟨rfl, hb1⟩
    rw [HF.out]
    obtain ⟨hB, v, hr, ho, hv⟩ := HT.out.below hb1
    have HR := Lib.hid hr
    have HO := Lib.hid ho
    have HV := Lib.hid hv
    have HK1 : Hid (KeptL (g :: h.toList) w w1) := KeptL.of_below hb1
    have c0 := hr.cell 0
    simp only [List.getElem?_toArray, List.getElem?_cons_zero] at c0
    obtain ⟨A, c, rfl⟩ := own_slice ho
    clear hr ho hv hb1
    have hi1 : ((i : Int) + 1) = ((i + 1 : Nat) : Int) := by omega
    obtain ⟨p, hp⟩ : ∃ p, p = i + 1 := ⟨_, rfl⟩
    have hp1 : (i : Int) + 1 = (p : Int) := by omega
    have HPE := Lib.hid hp
    have HI := Lib.hid hi
    have hib : (i : Int) < 32 := by omega
    clear hi1 hp hi HF HT
    go_wp2_with fail
    refine (delete_any w1 B l.length i p _ (ecells l) HO.out (ecells_one l) (by have := HPE.out; omega) (by have := HPE.out; have := HI.out; omega) (by omega)).mono ?_; rintro e w2 ⟨v2, rfl, ho2, hv2, hk2⟩
    have hr2 := kept_apart HR.out HO.out hk2
    rw [ecells_take, ecells_drop, ecells_app, HPE.out] at ho2
    have hn2 : i + (l.length - (i + 1)) = (l.take i ++ l.drop (i + 1)).length := by have := HI.out; simp; omega
    have hkk : KeptL (g :: h.toList) w w2 := HK1.out.trans (hk2.mono (fun k hk => by rw [HV.out] at hk; exact List.mem_cons_of_mem _ hk))
    have HS := Lib.hid (Tab.store hB hr2 ho2 hn2 (hv2.trans HV.out) _ hkk (by simp))
    have c2 := hr2.cell 0
    have z2 := hr2.frozen 0
    simp only [List.getElem?_toArray, List.getElem?_cons_zero] at c2
    obtain ⟨A2, c2', rfl⟩ := own_slice ho2
    clear ho2 hv2 hk2 hr2 hkk c0 HO HR HV hn2
    go_wp2_with fail
    go_ret
    exact ⟨rfl, HS.out⟩

theorem stop_nil (w : World) (id : Int) : Calls Try.prog 15 #[.pointer none, .int .i64 id] w fun e w' => e = .returned (.bool false) ∧ Below w.heap.size w w' := by
  go_enter Try.func15, Try.ntmps15
  go_wp2_with fail
  refine (find_nil w id).mono ?_; rintro e w1 ⟨rfl, hb1⟩
  have HB := Lib.hid hb1
  clear hb1
  go_wp2_with fail
  go_ret
  exact ⟨rfl, HB.out⟩

set_option maxHeartbeats 1000000 in
theorem between_any (w : World) (now at_ : Int) (h1 : -9223372036854775808 ≤ now) (h2 : now ≤ 9223372036854775807) (h3 : -9223372036854775808 ≤ at_) (h4 : at_ ≤ 9223372036854775807) : Calls Try.prog 30 #[.int .i64 now, .int .i64 at_] w fun e w' => e = .returned (.int .i64 (betw now at_)) ∧ w = w' := by
  have HB : Hid ((at_ ≤ now → betw now at_ = 0) ∧ (¬ at_ ≤ now → at_ - now ≤ 9223372036854775807 → betw now at_ = at_ - now) ∧ (¬ at_ ≤ now → ¬ at_ - now ≤ 9223372036854775807 → betw now at_ = 9223372036854775807)) := by
    refine ⟨fun h => ?_, fun h k => ?_, fun h k => ?_⟩ <;> simp [betw, *]
  generalize betw now at_ = r at *
  by_cases c1 : at_ ≤ now
  · have HR := Lib.hid (HB.out.1 c1)
    clear HB
    go_enter Try.func30, Try.ntmps30
    go_wp2_with fail
    go_ret
    exact ⟨ret_int HR.out.symm, rfl⟩
  · by_cases c2 : at_ - now ≤ 9223372036854775807
    · have HR := Lib.hid (HB.out.2.1 c1 c2)
      have hw : IntKind.i64.wrap (at_ - now) = at_ - now := IntWalk.i64_in _ (by omega)
      have hd : ¬ at_ - now < 0 := by omega
      clear HB
      go_enter Try.func30, Try.ntmps30
      go_wp2_with fail
      go_ret
      exact ⟨ret_int HR.out.symm, rfl⟩
    · have HR := Lib.hid (HB.out.2.2 c1 c2)
      obtain ⟨z, hz⟩ : ∃ z, IntKind.i64.wrap (at_ - now) = z := ⟨_, rfl⟩
      have hd : z < 0 := by rw [← hz, IntKind.wrap_i64]; omega
      clear HB
      go_enter Try.func30, Try.ntmps30
      go_wp2_with fail
      go_ret
      exact ⟨ret_int HR.out.symm, rfl⟩

/-- All ticks fit. -/
def Fit (l : List (Int × Int)) : Prop := ∀ p ∈ l, -9223372036854775808 ≤ p.2 ∧ p.2 ≤ 9223372036854775807

set_option maxHeartbeats 2000000 in
theorem left_any (w : World) (B g : Nat) (h : Option Nat) (l : List (Int × Int)) (id now : Int) (ht : Tab w B g h l) (hl : Good l) (hf : Fit l) (h1 : -9223372036854775808 ≤ now) (h2 : now ≤ 9223372036854775807) :
    Calls Try.prog 18 #[.pointer (some ⟨g, 0, none⟩), .int .i64 id, .int .i64 now] w fun e w' => e = .returned (.tuple #[.int .i64 (leftL l id now).1, .bool (leftL l id now).2]) ∧ Below w.heap.size w w' := by
  have HT := Lib.hid ht
  have hln := hl.len
  rcases find_cases l hl.ids id with ⟨f1, -, -, f4⟩ | ⟨i, hi, f1, -, -, f4⟩
  · rw [f4]
    have HF := Lib.hid f1
    clear f1 f4 ht hl hf
    go_enter Try.func18, Try.ntmps18
    go_wp2_with fail
    refine (find_any w B g h l id HT.out hln).mono ?_; rintro e w1 ⟨rfl, hb1⟩
    have HB1 := Lib.hid hb1
    clear hb1
    rw [HF.out]
    go_wp2_with fail
    go_ret2
    exact ⟨rfl, HB1.out⟩
  · obtain ⟨z, hz⟩ : ∃ z, l[i] = z := ⟨_, rfl⟩
    have hfi := hf l[i] (List.getElem_mem _)
    rw [f4, hz]
    rw [hz] at hfi
    have HZ := Lib.hid hz
    obtain ⟨z0, z1⟩ := z
    simp only at hfi ⊢
    have HF := Lib.hid f1
    have HFI := Lib.hid hfi
    clear f1 f4 ht hl hf hfi hz
    go_enter Try.func18, Try.ntmps18
    go_wp2_with fail
    refine (find_any w B g h l id HT.out hln).mono ?_; rintro e w1 ⟨rfl, hb1⟩
    rw [HF.out]
    obtain ⟨hB, v, hr, ho, hv⟩ := HT.out.below hb1
    have HB1 := Lib.hid hb1
    have c0 := hr.cell 0
    simp only [List.getElem?_toArray, List.getElem?_cons_zero] at c0
    obtain ⟨A, c, rfl⟩ := own_slice ho
    obtain ⟨b, o, rfl, -, q0, q1⟩ := (Ts.of_own ho).at i hi
    clear hr ho hv hb1 HT HF q0
    have hi2 : (i : Int) < (l.length : Int) := by omega
    have hi3 : (0 : Int) ≤ (i : Int) := by omega
    rw [HZ.out] at q1
    simp only at q1
    go_wp2_with fail
    refine (between_any w1 now z1 h1 h2 HFI.out.1 HFI.out.2).mono ?_; rintro e w2 ⟨rfl, rfl⟩
    go_wp2_with fail
    go_ret2
    exact ⟨rfl, HB1.out⟩

theorem left_nil (w : World) (id now : Int) : Calls Try.prog 18 #[.pointer none, .int .i64 id, .int .i64 now] w fun e w' => e = .returned (.tuple #[.int .i64 0, .bool false]) ∧ Below w.heap.size w w' := by
  go_enter Try.func18, Try.ntmps18
  go_wp2_with fail
  refine (find_nil w id).mono ?_; rintro e w1 ⟨rfl, hb1⟩
  have HB := Lib.hid hb1
  clear hb1
  go_wp2_with fail
  go_ret2
  exact ⟨rfl, HB.out⟩

end Go.Proofs.Ytkhceigfmaajdaa
