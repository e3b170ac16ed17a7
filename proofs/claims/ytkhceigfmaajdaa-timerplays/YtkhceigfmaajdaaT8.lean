/- Contract: Start. -/
import Derived.Test.YtkhceigfmaajdaaT7
namespace Go.Proofs.Ytkhceigfmaajdaa
open Go.RowKit
set_option maxRecDepth 100000

section

variable {P : Program} {ops : Array Oper} {Q : Exit → Act → World → Prop} {md : Region.Mode} {S : World → Prop} {t : Nat}

/-- Any order from here on; S holds behind every operation but number t. -/
def AnyBut (P : Program) (md : Region.Mode) (ops : Array Oper) (Q : Exit → Act → World → Prop) (S : World → Prop) (t : Nat) : Nat → Array Bool → Act → World → Prop
  | 0, L, a, w => Region.ready md ops L = [] ∧ Q .normal a w
  | n + 1, L, a, w => (Region.ready md ops L = [] → Q .normal a w) ∧
      ∀ j ∈ Region.ready md ops L, wpOp P ops Q j (fun a' w' => (j ≠ t → S w') ∧ AnyBut P md ops Q S t n (L.setIfInBounds j true) a' w') a w

theorem AnyBut.any : ∀ (n : Nat) (L : Array Bool) (a : Act) (w : World), AnyBut P md ops Q S t n L a w → wpAny P md ops Q n L a w
  | 0, _, _, _, h => h
  | n + 1, _, _, _, h => ⟨h.1, fun j hj => wpOp_mono (fun _ _ h' => AnyBut.any n _ _ _ h'.2) (h.2 j hj)⟩

/-- What is ready beside an unlisted i does not wait for i. -/
theorem ready_nowait {i j : Nat} {L : Array Bool} {oj : Oper} (hi : i ∈ Region.ready md ops L) (hj : j ∈ Region.ready md ops L) (ho : ops[j]? = some oj) :
    ∀ e ∈ oj.after, Region.binds md e = true → e.on ≠ i := by
  intro e he hb heq
  obtain ⟨_, o', ho', hall⟩ := mem_ready.1 hj
  obtain rfl : oj = o' := by rw [ho] at ho'; exact Option.some.inj ho'
  have h1 := hall e he hb
  have h0 := (mem_ready.1 hi).1
  rw [heq] at h1
  by_cases hlt : i < L.size
  · simp [hlt] at h0 h1; rw [h0] at h1; cases h1
  · simp [Array.getElem?_eq_none (Nat.le_of_not_lt hlt)] at h1

theorem AnyBut.first {i : Nat} {oi : Oper} {v : Value} (hi : ops[i]? = some oi) (hs : Region.noSelect ops = true)
    (hQ : ∀ c a w, Q (.panic c) (a.put oi.dst v) w → Q (.panic c) a w)
    (ht : ∀ o, ops[t]? = some o → ∃ e ∈ o.after, Region.binds md e = true ∧ e.on = i) (hit : i ≠ t) :
    ∀ (n : Nat) (L : Array Bool) (a : Act) (w : World),
      (∀ j oj, ops[j]? = some oj → j ≠ i → L.getD j true = false → (∀ e ∈ oj.after, Region.binds md e = true → e.on ≠ i) → oi.apart ops oj = true) →
      i ∈ Region.ready md ops L → YieldsIf P ops S oi v a → S w → AnyBut P md ops Q S t n (L.setIfInBounds i true) (a.put oi.dst v) w → AnyBut P md ops Q S t (n + 1) L a w := by
  have hsel := Region.noSelect_spec hs
  intro n
  induction n with
  | zero =>
    intro L a w hfree hr hy hS H
    refine ⟨fun h => (by rw [h] at hr; cases hr), fun j hj => ?_⟩
    by_cases e : j = i
    · subst e; exact hy.wpOp hi hS ⟨fun _ => hS, H⟩
    · have h0 := ready_mono hj e
      rw [H.1] at h0
      cases h0
  | succ n ih =>
    intro L a w hfree hr hy hS H
    refine ⟨fun h => (by rw [h] at hr; cases hr), fun j hj => ?_⟩
    by_cases e : j = i
    · subst e; exact hy.wpOp hi hS ⟨fun _ => hS, H⟩
    · obtain ⟨hun, oj, hoj, -⟩ := mem_ready.1 hj
      have hno := ready_nowait hr hj hoj
      have hjt : j ≠ t := by
        intro h
        subst h
        obtain ⟨d, hd, hb, hd2⟩ := ht oj hoj
        exact hno d hd hb hd2
      have h2 := wpOp_putIf hoj (hfree j oj hoj e hun hno) (fun cs b => hsel i oi cs b hi) (fun cs b => hsel j oj cs b hoj) hQ hy (H.2 j (ready_mono hj e))
      refine wpOp_mono (fun a' w' h3 => ⟨fun _ => h3.2.1 hjt, ih (L.setIfInBounds j true) a' w' (fun k ok hk hki hu hn => hfree k ok hk hki ?_ hn) (ready_mono hr (Ne.symm e)) h3.1 (h3.2.1 hjt) ?_⟩) h2
      · by_cases hjk : j = k
        · subst hjk; exact hun
        · rw [getD_set_ne true hjk] at hu; exact hu
      · rw [Array.setIfInBounds_comm _ _ e]
        exact h3.2.2

/-- Number i is taken first. -/
theorem AnyBut.take (i : Nat) {oi : Oper} {v : Value} {n : Nat} {L : Array Bool} {a : Act} {w : World} (hi : ops[i]? = some oi) (hs : Region.noSelect ops = true)
    (hf : Region.free md ops L i = true) (hr : (Region.ready md ops L).contains i = true)
    (ht : ((ops[t]?).all fun o => o.after.any fun e => Region.binds md e && e.on == i) = true) (hit : i ≠ t)
    (hQ : ∀ c a w, Q (.panic c) (a.put oi.dst v) w → Q (.panic c) a w) (hy : YieldsIf P ops S oi v a) (hS : S w)
    (h : AnyBut P md ops Q S t n (L.setIfInBounds i true) (a.put oi.dst v) w) : AnyBut P md ops Q S t (n + 1) L a w := by
  refine AnyBut.first hi hs hQ (fun o ho => ?_) hit n L a w (Region.free_spec hi hf) (by simpa using hr) hy hS h
  rw [ho] at ht
  have h2 : ∃ k, ∃ h : k < o.after.size, Region.binds md o.after[k] = true ∧ o.after[k].on = i := by simpa using ht
  obtain ⟨k, hk, hb⟩ := h2
  exact ⟨_, Array.getElem_mem hk, hb.1, hb.2⟩

/-- Number i alone may come up. -/
theorem AnyBut.one (i : Nat) {oi : Oper} {n : Nat} {L : Array Bool} {a : Act} {w : World} (hi : ops[i]? = some oi) (hr : Region.ready md ops L = [i]) (hw : Region.wanted oi (yielded ops a.tmps) = true)
    (h : oi.wp P a w (fun a' w' => (i ≠ t → S w') ∧ AnyBut P md ops Q S t n (L.setIfInBounds i true) a' w') Q) : AnyBut P md ops Q S t (n + 1) L a w :=
  ⟨fun h0 => absurd (hr.symm.trans h0) (by simp), fun j hj => (by
    rw [hr] at hj
    have e : j = i := by simpa using hj
    rw [e]
    unfold wpOp
    simp only [hi, hw, if_true]
    exact .inl h)⟩

theorem AnyBut.done {L : Array Bool} {a : Act} {w : World} (hr : Region.ready md ops L = []) (h : Q .normal a w) : AnyBut P md ops Q S t 0 L a w := ⟨hr, h⟩

theorem yields_of {o : Oper} {v : Value} {a : Act} (h1 : Region.wanted o (yielded ops a.tmps) = true) (h : ∀ w, S w → (execOp a.eval o).run P w = .ok (.value v) w) : YieldsIf P ops S o v a := .inl ⟨h1, h⟩

theorem AnyBut.region {id : Nat} {a : Act} {w : World} (S : World → Prop) (t : Nat) (hm : P.follows .mixedOrders = true)
    (h : AnyBut P .any ops Q S t ops.size (Array.replicate ops.size false) a { w with drawn := w.drawn + 1 }) : (Code.region id ops true).wp P Q a w :=
  wp_region_any hm (AnyBut.any _ _ _ _ h)

end


instance ltTdec (a b : Int × Int) : Decidable (ltT a b) := by unfold ltT; exact inferInstance
/-- A timer put where it belongs. -/
def insT (x : Int × Int) (l : List (Int × Int)) : List (Int × Int) := (l.filter fun y => decide (ltT y x)) ++ x :: l.filter fun y => !decide (ltT y x)

theorem ins_place {l : List (Int × Int)} {x : Int × Int} {p : Nat} (hp : p ≤ l.length) (h : Part l x p p) : l.take p ++ x :: l.drop p = insT x l := by
  have e : l = l.take p ++ l.drop p := (List.take_append_drop _ _).symm
  unfold insT
  conv => rhs; rw [e]
  have a1 : (l.take p).filter (fun y => decide (ltT y x)) = l.take p := by
    rw [List.filter_eq_self]
    intro y hy
    obtain ⟨j, hj, rfl⟩ := List.getElem_of_mem hy
    rw [List.length_take] at hj
    simp only [List.getElem_take]
    exact decide_eq_true (h.1 j (by omega) (by omega))
  have a2 : (l.drop p).filter (fun y => decide (ltT y x)) = [] := by
    rw [List.filter_eq_nil_iff]
    intro y hy
    obtain ⟨j, hj, rfl⟩ := List.getElem_of_mem hy
    rw [List.length_drop] at hj
    simp only [List.getElem_drop]
    simpa using h.2 (p + j) (by omega) (by omega)
  have a3 : (l.take p).filter (fun y => !decide (ltT y x)) = [] := by
    rw [List.filter_eq_nil_iff]
    intro y hy
    obtain ⟨j, hj, rfl⟩ := List.getElem_of_mem hy
    rw [List.length_take] at hj
    simp only [List.getElem_take]
    simpa using h.1 j (by omega) (by omega)
  have a4 : (l.drop p).filter (fun y => !decide (ltT y x)) = l.drop p := by
    rw [List.filter_eq_self]
    intro y hy
    obtain ⟨j, hj, rfl⟩ := List.getElem_of_mem hy
    rw [List.length_drop] at hj
    simp only [List.getElem_drop]
    simpa using h.2 (p + j) (by omega) (by omega)
  rw [List.filter_append, List.filter_append, a1, a2, a3, a4]
  simp

def fullL (l : List (Int × Int)) (id : Int) : Bool := !hasL l id && decide (32 ≤ l.length)
def startE (l : List (Int × Int)) (id : Int) : Int := if fullL l id then 6 else 0
def startL (l : List (Int × Int)) (id at_ : Int) : List (Int × Int) := if fullL l id then l else insT (id, at_) (stopL l id)

/-- Where a new list of timers may lie. -/
def At (w : World) (h h' : Option Nat) : Prop := h' = h ∨ ∃ k, h' = some k ∧ w.heap.size ≤ k

def RetStart (w : World) (B g : Nat) (h : Option Nat) (l : List (Int × Int)) (id at_ : Int) (e : Ending) (w' : World) : Prop :=
  e = .returned (.int .i64 (startE l id)) ∧ ∃ h', Tab w' B g h' (startL l id at_) ∧ At w h h' ∧ KeptL (g :: h.toList) w w'

structure Five (W : World) (g nb : Nat) (v : Value) (id at_ : Int) : Prop where
  row : Row W g 57 #[v]
  one : Row W nb 61 #[.int .i64 id, .int .i64 at_]

/-- The rest of Start: there is room. -/
structure Room (w W : World) (B g nb : Nat) (h : Option Nat) (v : Value) (l : List (Int × Int)) (id at_ : Int) : Prop where
  row : Row W g 57 #[v]
  own : W.ownsRow B 61 2 v l.length (ecells l)
  blk : v.ownBlock = h
  one : Row W nb 61 #[.int .i64 id, .int .i64 at_]
  nb : w.heap.size ≤ nb
  kept : KeptL (g :: h.toList) w W
  lt : ∀ k, h = some k → k < w.heap.size
  B : B ≤ w.heap.size

theorem Room.below {w W W' : World} {B g nb : Nat} {h : Option Nat} {v : Value} {l : List (Int × Int)} {id at_ : Int} (r : Room w W B g nb h v l id at_) (hb : Below W.heap.size W W') : Room w W' B g nb h v l id at_ :=
  ⟨Below.row hb r.row r.row.lt, own_below r.own hb, r.blk, Below.row hb r.one r.one.lt, r.nb, r.kept.trans (KeptL.of_below hb), r.lt, r.B⟩

theorem Room.of {w w1 : World} {B g : Nat} {h : Option Nat} {v : Value} {l : List (Int × Int)} (id at_ : Int) (hr : Row w1 g 57 #[v]) (ho : w1.ownsRow B 61 2 v l.length (ecells l)) (hv : v.ownBlock = h) (hk : KeptL (g :: h.toList) w w1) (hlt : ∀ k, h = some k → k < w.heap.size) (hB : B ≤ w.heap.size) :
    Room w (w1.alloc (.cells #[.int .i64 id, .int .i64 at_] 61)) B g w1.heap.size h v l id at_ := by
  have hb := (Below.refl w1.heap.size w1).alloc (Nat.le_refl _) (.cells #[.int .i64 id, .int .i64 at_] 61)
  exact ⟨Below.row hb hr hr.lt, own_below ho hb, hv, Row.new _ _ _, hk.size, hk.trans (KeptL.of_below hb), hlt, hB⟩

/-- What Insert leaves. -/
theorem Room.kept5 {w W W5 : World} {B g nb : Nat} {h : Option Nat} {v : Value} {l : List (Int × Int)} {id at_ : Int} (r : Room w W B g nb h v l id at_) (hk : KeptL v.ownBlock.toList W W5) : Five W5 g nb v id at_ :=
  ⟨kept_apart r.row r.own hk, hk.row r.one (fun hm => by
    have h1 : v.ownBlock = some nb := by simpa using hm
    have := r.lt nb (r.blk.symm.trans h1)
    have := r.nb
    omega)⟩
theorem Room.fin {w W W5 : World} {B g nb p : Nat} {h : Option Nat} {v v5 : Value} {l : List (Int × Int)} {id at_ : Int} (r : Room w W B g nb h v l id at_) (hB : B ≤ g) (hp : p ≤ l.length) (hpt : Part l (id, at_) p p)
    (ho : W5.ownsRow B 61 2 v5 (l.length + 1) ((ecells l).take (p * 2) ++ [.int .i64 id, .int .i64 at_] ++ (ecells l).drop (p * 2))) (hat : v5.ownBlock = v.ownBlock ∨ ∃ k, v5.ownBlock = some k ∧ W.heap.size ≤ k) (hk : KeptL v.ownBlock.toList W W5) :
    ∃ h', Tab (W5.setCell ⟨g, 0, none⟩ v5) B g h' (insT (id, at_) l) ∧ At w h h' ∧ KeptL (g :: h.toList) w (W5.setCell ⟨g, 0, none⟩ v5) := by
  have e : (ecells l).take (p * 2) ++ [.int .i64 id, .int .i64 at_] ++ (ecells l).drop (p * 2) = ecells (insT (id, at_) l) := by
    rw [ecells_take, ecells_drop, ← ins_place hp hpt]
    simp [ecells]
  have hl : l.length + 1 = (insT (id, at_) l).length := by rw [← ins_place hp hpt]; simp; omega
  rw [e] at ho
  have hkk : KeptL (g :: h.toList) w W5 := r.kept.trans (hk.mono (fun k hk => by rw [r.blk] at hk; exact List.mem_cons_of_mem _ hk))
  have hs := Tab.store hB (r.kept5 hk).row ho hl rfl _ hkk (by simp)
  refine ⟨v5.ownBlock, hs.1, ?_, hs.2⟩
  rcases hat with e | ⟨k, e, hk2⟩
  · exact Or.inl (e.trans r.blk)
  · exact Or.inr ⟨k, e, Nat.le_trans r.kept.size hk2⟩

theorem cells3 {W : World} {g nb n c : Nat} {A : Option Addr} {id at_ : Int} (r : Five W g nb (.slice A n c) id at_) :
    W.cell? ⟨g, 0, none⟩ = some (.slice A n c) ∧ W.cell? ⟨nb, 0, none⟩ = some (.int .i64 id) ∧ W.cell? ⟨nb, 1, none⟩ = some (.int .i64 at_) := by
  have d1 := r.row.cell 0; have d2 := r.one.cell 0; have d3 := r.one.cell 1
  simp only [List.getElem?_toArray, List.getElem?_cons_zero, List.getElem?_cons_succ] at d1 d2 d3
  exact ⟨d1, d2, d3⟩

set_option maxHeartbeats 4000000 in
theorem start_any (w : World) (B g : Nat) (h : Option Nat) (l : List (Int × Int)) (id at_ : Int) (ht : Tab w B g h l) (hl : Good l) (hB : B ≤ w.heap.size) :
    Calls Try.prog 13 #[.pointer (some ⟨g, 0, none⟩), .int .i64 id, .int .i64 at_] w (RetStart w B g h l id at_) := by
  have HT := Lib.hid ht
  have HL := Lib.hid hl
  have HB := Lib.hid hB
  have hlt : ∀ k, h = some k → k < w.heap.size := by
    obtain ⟨_, v, _, ho, hv⟩ := ht
    intro k hk
    exact (ho.lt k (hv.trans hk)).2
  have HLT := Lib.hid hlt
  have hln := hl.len
  obtain ⟨RP, hRP⟩ : ∃ R, R = RetStart w B g h l id at_ := ⟨_, rfl⟩
  rw [← hRP]
  have HRP := Lib.hid hRP
  have HSG := Lib.hid (stop_good hl id)
  clear hRP ht hl hB hlt
  by_cases hf : fullL l id = true
  · have hf2 : hasL l id = false ∧ 32 ≤ l.length := by simpa [fullL] using hf
    have HSE : Hid (startE l id = 6 ∧ startL l id at_ = l ∧ stopL l id = l) := by
      refine ⟨by unfold startE; rw [if_pos hf], by unfold startL; rw [if_pos hf], ?_⟩
      rcases find_cases l HL.out.ids id with ⟨_, _, f3, -⟩ | ⟨i, hi, _, f2, _, -⟩
      · exact f3
      · rw [hf2.1] at f2; cases f2
    have HF := Lib.hid hf2
    clear hf hf2
    go_enter Try.func13, Try.ntmps13
    go_wp2_with fail
    refine (stop_any w B g h l id HT.out HL.out).mono ?_; rintro e w1 ⟨rfl, ht1, hk1⟩
    rw [HF.out.1]
    rw [HSE.out.2.2] at ht1
    have HT1 := Lib.hid ht1
    have HK1 := Lib.hid hk1
    obtain ⟨_, v, hr, ho, _⟩ := ht1
    have c0 := hr.cell 0
    simp only [List.getElem?_toArray, List.getElem?_cons_zero] at c0
    obtain ⟨A, c, rfl⟩ := own_slice ho
    have hge : (32 : Int) ≤ (l.length : Int) := by have := HF.out.2; omega
    clear hr ho hk1
    go_wp2_with fail
    rw [HRP.out]
    exact ⟨by rw [HSE.out.1]; rfl, h, by rw [HSE.out.2.1]; exact HT1.out, Or.inl rfl, HK1.out⟩
  · have hf2 : ¬ (hasL l id = false ∧ 32 ≤ l.length) := by simpa [fullL] using hf
    have HSE : Hid (startE l id = 0 ∧ startL l id at_ = insT (id, at_) (stopL l id)) := by
      refine ⟨by unfold startE; rw [if_neg hf], by unfold startL; rw [if_neg hf]⟩
    have HST : Hid (hasL l id = false → stopL l id = l) := fun hh => by
      rcases find_cases l HL.out.ids id with ⟨_, _, f3, -⟩ | ⟨i, hi, _, f2, _, -⟩
      · exact f3
      · rw [hh] at f2; cases f2
    have HF := Lib.hid hf2
    clear hf hf2
    go_enter Try.func13, Try.ntmps13
    go_wp2_with fail
    refine (stop_any w B g h l id HT.out HL.out).mono ?_; rintro e w1 ⟨rfl, ht1, hk1⟩
    obtain ⟨bo, hbo⟩ : ∃ b, hasL l id = b := ⟨_, rfl⟩
    have HBO := Lib.hid hbo
    rw [hbo]
    clear hbo
    obtain ⟨l1, hl1⟩ : ∃ x, x = stopL l id := ⟨_, rfl⟩
    have HL1 := Lib.hid hl1
    rw [← hl1] at ht1
    have HG1 : Hid (Good l1) := by rw [hl1]; exact HSG.out
    have hlen1 : l1.length ≤ 32 := HG1.out.len
    have HFF : Hid (bo = false → ¬ (32 : Int) ≤ (l1.length : Int)) := fun hb => by
      have := HF.out
      rw [HBO.out] at this
      have e := HST.out (by rw [HBO.out]; exact hb)
      rw [hl1, e]
      intro hc
      exact this ⟨hb, by omega⟩
    clear hl1
    obtain ⟨hBg, v, hr, ho, hv⟩ := ht1
    have c0 := hr.cell 0
    simp only [List.getElem?_toArray, List.getElem?_cons_zero] at c0
    obtain ⟨A, c, rfl⟩ := own_slice ho
    have HRM := Lib.hid (Room.of id at_ hr ho hv hk1 HLT.out HB.out)
    clear hr ho hv hk1 HT
    cases bo with
    | true =>
      go_upto_region 6 with (fail)
      have HR2 := HRM
      obtain ⟨nb, hnb⟩ : ∃ n, n = w1.heap.size := ⟨_, rfl⟩
      rw [← hnb] at HR2 ⊢
      generalize (w1.alloc (.cells #[.int .i64 id, .int .i64 at_] 61)) = W2 at HR2 ⊢
      clear hnb HRM c0
      have d1 := HR2.out.row.cell 0; have d2 := HR2.out.one.cell 0; have d3 := HR2.out.one.cell 1
      simp only [List.getElem?_toArray, List.getElem?_cons_zero, List.getElem?_cons_succ] at d1 d2 d3
      have s0 : W2.cell? ⟨g, 0, none⟩ = some (.slice A l1.length c) ∧ W2.cell? ⟨nb, 0, none⟩ = some (.int .i64 id) ∧ W2.cell? ⟨nb, 1, none⟩ = some (.int .i64 at_) := ⟨d1, d2, d3⟩
      clear d1 d2 d3
      have HSC : Hid (∀ W, Room w W B g nb h (.slice A l1.length c) l1 id at_ → Calls Try.prog 24 #[.slice A l1.length c, .agg #[.int .i64 id, .int .i64 at_], .func (.func 25) #[] #[]] W (RetPlace l1 (id, at_) W)) := fun W hW => search_any W _ _ l1 (id, at_) (Ts.of_own hW.own) (Nat.le_refl _) (by omega) HG1.out.sorted
      go_region_held3 (fun w' => w'.cell? ⟨g, 0, none⟩ = some (.slice A l1.length c) ∧ w'.cell? ⟨nb, 0, none⟩ = some (.int .i64 id) ∧ w'.cell? ⟨nb, 1, none⟩ = some (.int .i64 at_)) (first | exact s0 | exact s1) (first | (go_at_call 24; (with_reducible refine (HSC.out _ (HR2.out.below (Below.refl _ _).drew)).mono ?_); rintro e W3 ⟨p, f, rfl, hp, hpt, hb3⟩; have HR3 := Lib.hid ((HR2.out.below (Below.refl _ _).drew).below hb3); have s1 := cells3 ⟨HR3.out.row, HR3.out.one⟩; have HPP := Lib.hid hp; have HPT := Lib.hid hpt; clear hb3 hp hpt))
      clear s0 s1 HSC HR2
      go_upto_region 7 with (fail)
      obtain ⟨d1, d2, d3⟩ := cells3 ⟨HR3.out.row, HR3.out.one⟩
      refine AnyBut.region (fun w' => w'.cell? ⟨g, 0, none⟩ = some (.slice A l1.length c) ∧ w'.cell? ⟨nb, 0, none⟩ = some (.int .i64 id) ∧ w'.cell? ⟨nb, 1, none⟩ = some (.int .i64 at_)) 11 (by kernel_rfl) ?_
      refine AnyBut.take 0 rfl (by kernel_rfl) (by kernel_rfl) (by kernel_rfl) (by kernel_rfl) (by decide) (fun _ _ _ h => h) (yields_of (by rfl) (fun w9 hS => (by obtain ⟨s1, s2, s3⟩ := hS; go_simp; try rfl))) ⟨d1, d2, d3⟩ ?_
      refine AnyBut.take 1 rfl (by kernel_rfl) (by kernel_rfl) (by kernel_rfl) (by kernel_rfl) (by decide) (fun _ _ _ h => h) (yields_of (by rfl) (fun w9 hS => (by obtain ⟨s1, s2, s3⟩ := hS; go_simp; try rfl))) ⟨d1, d2, d3⟩ ?_
      refine AnyBut.take 2 rfl (by kernel_rfl) (by kernel_rfl) (by kernel_rfl) (by kernel_rfl) (by decide) (fun _ _ _ h => h) (yields_of (by rfl) (fun w9 hS => (by obtain ⟨s1, s2, s3⟩ := hS; go_simp; try rfl))) ⟨d1, d2, d3⟩ ?_
      refine AnyBut.take 3 rfl (by kernel_rfl) (by kernel_rfl) (by kernel_rfl) (by kernel_rfl) (by decide) (fun _ _ _ h => h) (yields_of (by rfl) (fun w9 hS => (by obtain ⟨s1, s2, s3⟩ := hS; go_simp; try rfl))) ⟨d1, d2, d3⟩ ?_
      refine AnyBut.take 4 rfl (by kernel_rfl) (by kernel_rfl) (by kernel_rfl) (by kernel_rfl) (by decide) (fun _ _ _ h => h) (yields_of (by rfl) (fun w9 hS => (by obtain ⟨s1, s2, s3⟩ := hS; go_simp; try rfl))) ⟨d1, d2, d3⟩ ?_
      refine AnyBut.take 5 rfl (by kernel_rfl) (by kernel_rfl) (by kernel_rfl) (by kernel_rfl) (by decide) (fun _ _ _ h => h) (yields_of (by rfl) (fun w9 hS => (by obtain ⟨s1, s2, s3⟩ := hS; go_simp; try rfl))) ⟨d1, d2, d3⟩ ?_
      refine AnyBut.take 6 rfl (by kernel_rfl) (by kernel_rfl) (by kernel_rfl) (by kernel_rfl) (by decide) (fun _ _ _ h => h) (yields_of (by rfl) (fun w9 hS => (by obtain ⟨s1, s2, s3⟩ := hS; go_simp; try rfl))) ⟨d1, d2, d3⟩ ?_
      refine AnyBut.one 7 rfl (by kernel_rfl) (by rfl) ?_
      go_simp
      refine ⟨⟨cell_alloc d1, cell_alloc d2, cell_alloc d3⟩, ?_⟩
      have HR4 : Hid (Room w ((W3.alloc (.cells #[.int .i64 id, .int .i64 at_] 61)).drew) B g nb h (.slice A l1.length c) l1 id at_) := HR3.out.below (((Below.refl _ _).alloc (Nat.le_refl _) _).drew)
      have HV4 : Hid (Row ((W3.alloc (.cells #[.int .i64 id, .int .i64 at_] 61)).drew) W3.heap.size 61 #[.int .i64 id, .int .i64 at_]) := Row.new W3 _ _
      have HS3 : Hid (w.heap.size ≤ W3.heap.size) := HR3.out.kept.size
      generalize (W3.alloc (.cells #[.int .i64 id, .int .i64 at_] 61)).drew = W4 at *
      generalize W3.heap.size = vb at *
      clear d1 d2 d3 HR3
      refine AnyBut.one 8 rfl (by kernel_rfl) (by rfl) ?_
      go_simp
      refine (insert_any W4 B l1.length p vb _ (ecells l1) id at_ HR4.out.own (ecells_one l1) HV4.out (fun e => by have h1 := HLT.out vb (HR4.out.blk.symm.trans e); have h2 := HS3.out; omega) HPP.out (by omega) (Nat.le_trans HR4.out.B HR4.out.kept.size)).mono ?_
      rintro e W5 ⟨v5, rfl, ho5, hat5, hk5⟩
      obtain ⟨d1, d2, d3⟩ := (cells3 (HR4.out.kept5 hk5))
      have HFIN := Lib.hid (HR4.out.fin hBg HPP.out HPT.out ho5 hat5 hk5)
      have z5 := (HR4.out.kept5 hk5).row.frozen 0
      obtain ⟨A5, c5, hv5⟩ := own_slice ho5
      subst hv5
      clear ho5 hat5 hk5
      refine ⟨⟨d1, d2, d3⟩, ?_⟩
      refine AnyBut.one 9 rfl (by kernel_rfl) (by rfl) ?_
      go_simp
      refine AnyBut.one 10 rfl (by kernel_rfl) (by rfl) ?_
      go_simp
      refine AnyBut.one 11 rfl (by kernel_rfl) (by rfl) ?_
      go_simp
      refine AnyBut.done (by kernel_rfl) ?_
      clear d1 d2 d3 z5
      go_wp2_with fail
      rw [HRP.out]
      refine ⟨by rw [HSE.out.1]; rfl, ?_⟩
      rw [HSE.out.2, ← HL1.out]
      exact HFIN.out
    | false =>
      have hge := HFF.out rfl
      go_upto_region 6 with (fail)
      have HR2 := HRM
      obtain ⟨nb, hnb⟩ : ∃ n, n = w1.heap.size := ⟨_, rfl⟩
      rw [← hnb] at HR2 ⊢
      generalize (w1.alloc (.cells #[.int .i64 id, .int .i64 at_] 61)) = W2 at HR2 ⊢
      clear hnb HRM c0
      have d1 := HR2.out.row.cell 0; have d2 := HR2.out.one.cell 0; have d3 := HR2.out.one.cell 1
      simp only [List.getElem?_toArray, List.getElem?_cons_zero, List.getElem?_cons_succ] at d1 d2 d3
      have s0 : W2.cell? ⟨g, 0, none⟩ = some (.slice A l1.length c) ∧ W2.cell? ⟨nb, 0, none⟩ = some (.int .i64 id) ∧ W2.cell? ⟨nb, 1, none⟩ = some (.int .i64 at_) := ⟨d1, d2, d3⟩
      clear d1 d2 d3
      have HSC : Hid (∀ W, Room w W B g nb h (.slice A l1.length c) l1 id at_ → Calls Try.prog 24 #[.slice A l1.length c, .agg #[.int .i64 id, .int .i64 at_], .func (.func 25) #[] #[]] W (RetPlace l1 (id, at_) W)) := fun W hW => search_any W _ _ l1 (id, at_) (Ts.of_own hW.own) (Nat.le_refl _) (by omega) HG1.out.sorted
      go_region_held3 (fun w' => w'.cell? ⟨g, 0, none⟩ = some (.slice A l1.length c) ∧ w'.cell? ⟨nb, 0, none⟩ = some (.int .i64 id) ∧ w'.cell? ⟨nb, 1, none⟩ = some (.int .i64 at_)) (first | exact s0 | exact s1) (first | (go_at_call 24; (with_reducible refine (HSC.out _ (HR2.out.below (Below.refl _ _).drew)).mono ?_); rintro e W3 ⟨p, f, rfl, hp, hpt, hb3⟩; have HR3 := Lib.hid ((HR2.out.below (Below.refl _ _).drew).below hb3); have s1 := cells3 ⟨HR3.out.row, HR3.out.one⟩; have HPP := Lib.hid hp; have HPT := Lib.hid hpt; clear hb3 hp hpt))
      clear s0 s1 HSC HR2
      go_upto_region 7 with (fail)
      obtain ⟨d1, d2, d3⟩ := cells3 ⟨HR3.out.row, HR3.out.one⟩
      refine AnyBut.region (fun w' => w'.cell? ⟨g, 0, none⟩ = some (.slice A l1.length c) ∧ w'.cell? ⟨nb, 0, none⟩ = some (.int .i64 id) ∧ w'.cell? ⟨nb, 1, none⟩ = some (.int .i64 at_)) 11 (by kernel_rfl) ?_
      refine AnyBut.take 0 rfl (by kernel_rfl) (by kernel_rfl) (by kernel_rfl) (by kernel_rfl) (by decide) (fun _ _ _ h => h) (yields_of (by rfl) (fun w9 hS => (by obtain ⟨s1, s2, s3⟩ := hS; go_simp; try rfl))) ⟨d1, d2, d3⟩ ?_
      refine AnyBut.take 1 rfl (by kernel_rfl) (by kernel_rfl) (by kernel_rfl) (by kernel_rfl) (by decide) (fun _ _ _ h => h) (yields_of (by rfl) (fun w9 hS => (by obtain ⟨s1, s2, s3⟩ := hS; go_simp; try rfl))) ⟨d1, d2, d3⟩ ?_
      refine AnyBut.take 2 rfl (by kernel_rfl) (by kernel_rfl) (by kernel_rfl) (by kernel_rfl) (by decide) (fun _ _ _ h => h) (yields_of (by rfl) (fun w9 hS => (by obtain ⟨s1, s2, s3⟩ := hS; go_simp; try rfl))) ⟨d1, d2, d3⟩ ?_
      refine AnyBut.take 3 rfl (by kernel_rfl) (by kernel_rfl) (by kernel_rfl) (by kernel_rfl) (by decide) (fun _ _ _ h => h) (yields_of (by rfl) (fun w9 hS => (by obtain ⟨s1, s2, s3⟩ := hS; go_simp; try rfl))) ⟨d1, d2, d3⟩ ?_
      refine AnyBut.take 4 rfl (by kernel_rfl) (by kernel_rfl) (by kernel_rfl) (by kernel_rfl) (by decide) (fun _ _ _ h => h) (yields_of (by rfl) (fun w9 hS => (by obtain ⟨s1, s2, s3⟩ := hS; go_simp; try rfl))) ⟨d1, d2, d3⟩ ?_
      refine AnyBut.take 5 rfl (by kernel_rfl) (by kernel_rfl) (by kernel_rfl) (by kernel_rfl) (by decide) (fun _ _ _ h => h) (yields_of (by rfl) (fun w9 hS => (by obtain ⟨s1, s2, s3⟩ := hS; go_simp; try rfl))) ⟨d1, d2, d3⟩ ?_
      refine AnyBut.take 6 rfl (by kernel_rfl) (by kernel_rfl) (by kernel_rfl) (by kernel_rfl) (by decide) (fun _ _ _ h => h) (yields_of (by rfl) (fun w9 hS => (by obtain ⟨s1, s2, s3⟩ := hS; go_simp; try rfl))) ⟨d1, d2, d3⟩ ?_
      refine AnyBut.one 7 rfl (by kernel_rfl) (by rfl) ?_
      go_simp
      refine ⟨⟨cell_alloc d1, cell_alloc d2, cell_alloc d3⟩, ?_⟩
      have HR4 : Hid (Room w ((W3.alloc (.cells #[.int .i64 id, .int .i64 at_] 61)).drew) B g nb h (.slice A l1.length c) l1 id at_) := HR3.out.below (((Below.refl _ _).alloc (Nat.le_refl _) _).drew)
      have HV4 : Hid (Row ((W3.alloc (.cells #[.int .i64 id, .int .i64 at_] 61)).drew) W3.heap.size 61 #[.int .i64 id, .int .i64 at_]) := Row.new W3 _ _
      have HS3 : Hid (w.heap.size ≤ W3.heap.size) := HR3.out.kept.size
      generalize (W3.alloc (.cells #[.int .i64 id, .int .i64 at_] 61)).drew = W4 at *
      generalize W3.heap.size = vb at *
      clear d1 d2 d3 HR3
      refine AnyBut.one 8 rfl (by kernel_rfl) (by rfl) ?_
      go_simp
      refine (insert_any W4 B l1.length p vb _ (ecells l1) id at_ HR4.out.own (ecells_one l1) HV4.out (fun e => by have h1 := HLT.out vb (HR4.out.blk.symm.trans e); have h2 := HS3.out; omega) HPP.out (by omega) (Nat.le_trans HR4.out.B HR4.out.kept.size)).mono ?_
      rintro e W5 ⟨v5, rfl, ho5, hat5, hk5⟩
      obtain ⟨d1, d2, d3⟩ := (cells3 (HR4.out.kept5 hk5))
      have HFIN := Lib.hid (HR4.out.fin hBg HPP.out HPT.out ho5 hat5 hk5)
      have z5 := (HR4.out.kept5 hk5).row.frozen 0
      obtain ⟨A5, c5, hv5⟩ := own_slice ho5
      subst hv5
      clear ho5 hat5 hk5
      refine ⟨⟨d1, d2, d3⟩, ?_⟩
      refine AnyBut.one 9 rfl (by kernel_rfl) (by rfl) ?_
      go_simp
      refine AnyBut.one 10 rfl (by kernel_rfl) (by rfl) ?_
      go_simp
      refine AnyBut.one 11 rfl (by kernel_rfl) (by rfl) ?_
      go_simp
      refine AnyBut.done (by kernel_rfl) ?_
      clear d1 d2 d3 z5
      go_wp2_with fail
      rw [HRP.out]
      refine ⟨by rw [HSE.out.1]; rfl, ?_⟩
      rw [HSE.out.2, ← HL1.out]
      exact HFIN.out

end Go.Proofs.Ytkhceigfmaajdaa
