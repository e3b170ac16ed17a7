/- Contracts: New, find, Open, Close, Get, All. -/
import Derived.Test.YtifcgkpannlnnaaQ3
namespace Go.Proofs.Ytifcgkpannlnnaa
open Go.RowKit Fl Go.Maps
set_option maxRecDepth 100000

abbrev zeroT : Value := .agg (tcells 0 0 0 0 0 (.slice none 0 0))

section
variable (w : World) {ops : Array Oper} {rest : List Oper} {o : Oper} {a : Act} {Q : Exit → Act → World → Prop}
theorem wpList_find_some (hg : o.guard = none) (m x : Operand) (hop : o.op = Op.lookup 91 m x true) (b n : Nat) (D : DataW Value)
    (hm : a.eval m = .map (some b)) (hown : w.ownsMap Try.prog 3 heldV b n D) (id : Int) (hx : a.eval x = .int .i64 id) (hid : (Lit.int .i64 id).wf = true) (v : Value) (hat : ∀ z, D.atKey (.int .i64 id) z = .held v)
    (hK : wpList Try.prog ops Q rest (a.put o.dst (.tuple #[v, .bool true])) w) : wpList Try.prog ops Q (o :: rest) a w := by
  refine wpList_lookup_own_ok w hg m x 91 hop 3 58 keyed3 Try.underlying91 heldV (zero58 w) (.held zeroT) [] rfl b n D hm hown _ _ hx (key3 hid) ?_
  intro v' ps hv
  have h1 := hat (.held zeroT)
  have h2 : v' = v := by
    have : DataW.held v' = D.atKey (.int .i64 id) (.held zeroT) := by
      unfold heldV at hv; injection hv with hv; injection hv with hv _
    rw [h1] at this; injection this
  subst h2
  rw [has_true_of_atKey hat]
  exact hK
theorem wpList_find_none (hg : o.guard = none) (m x : Operand) (hop : o.op = Op.lookup 91 m x true) (b n : Nat) (D : DataW Value)
    (hm : a.eval m = .map (some b)) (hown : w.ownsMap Try.prog 3 heldV b n D) (id : Int) (hx : a.eval x = .int .i64 id) (hid : (Lit.int .i64 id).wf = true) (hno : Maps.has D (.int .i64 id) = false)
    (hK : wpList Try.prog ops Q rest (a.put o.dst (.tuple #[zeroT, .bool false])) w) : wpList Try.prog ops Q (o :: rest) a w := by
  refine wpList_lookup_own_ok w hg m x 91 hop 3 58 keyed3 Try.underlying91 heldV (zero58 w) (.held zeroT) [] rfl b n D hm hown _ _ hx (key3 hid) ?_
  intro v' ps hv
  have h2 : v' = zeroT := by
    have : DataW.held v' = D.atKey (.int .i64 id) (.held zeroT) := by
      unfold heldV at hv; injection hv with hv; injection hv with hv _
    rw [atKey_of_not_has hno] at this; injection this
  subst h2
  rw [hno]
  exact hK
theorem wpList_look (hg : o.guard = none) (m x : Operand) (hop : o.op = Op.lookup 91 m x false) (b n : Nat) (D : DataW Value)
    (hm : a.eval m = .map (some b)) (hown : w.ownsMap Try.prog 3 heldV b n D) (id : Int) (hx : a.eval x = .int .i64 id) (hid : (Lit.int .i64 id).wf = true) (v : Value) (hat : ∀ z, D.atKey (.int .i64 id) z = .held v)
    (hK : wpList Try.prog ops Q rest (a.put o.dst v) w) : wpList Try.prog ops Q (o :: rest) a w := by
  refine wpList_plain hg fun K' hK' => ?_
  obtain ⟨v', ps, hrun, hv⟩ := hown.lookup keyed3 Try.underlying91 (zero58 w) (zd := .held zeroT) (zp := []) rfl (key3 hid)
  have h2 : v' = v := by
    have : DataW.held v' = D.atKey (.int .i64 id) (.held zeroT) := by
      unfold heldV at hv; injection hv with hv; injection hv with hv _
    rw [hat] at this; injection this
  subst h2
  unfold Oper.wp
  simp [execOp, hop, hm, hx, hrun, Result.andThen]
  exact hK' _ _ hK
end

set_option maxHeartbeats 4000000 in
theorem reg_new (w : World) : Calls Try.prog 23 #[] w fun e w' => ∃ rb mb, e = .returned (.pointer (some ⟨rb, 0, none⟩)) ∧ Reg w' rb mb 0 (fun _ => none) ∧ Below w.heap.size w w' ∧ w.heap.size ≤ mb ∧ w.heap.size ≤ rb := by
  have hmm := @run_makeMap Try.prog
  have HM : Hid (((w.alloc (.map #[] 0)).alloc (.cells #[.map (some w.heap.size)] 93)).ownsMap Try.prog 3 heldV w.heap.size 0 (.map [])) := (World.ownsMap_made w _ _ _).alloc _
  have hr := Row.new (w.alloc (.map #[] 0)) 93 #[.map (some w.heap.size)]
  rw [World.size_alloc] at hr
  have HR := Lib.hid hr
  have HB := Lib.hid (below2 w (.map #[] 0) (.cells #[.map (some w.heap.size)] 93))
  clear hr
  go_enter Try.func23, Try.ntmps23
  go_wp2_with fail
  go_ret
  exact ⟨_, _, rfl, ⟨HR.out, .map [], HM.out, fun x => ⟨rfl, fun t h => by cases h⟩⟩, HB.out, Nat.le_refl _, Nat.le_succ _⟩

/-- What 'find' tells of a session. -/
def RetHas (t : Tr) (w : World) (x : Ending) (w' : World) : Prop := ∃ vt, Rd w w.heap.size vt (ivals t.trail) ∧ RetFind t.id t.heard t.sure t.dir t.ahead vt true w x w'

set_option maxHeartbeats 4000000 in
theorem find_some (w : World) (rb mb n : Nat) (m : Mp) (h : Reg w rb mb n m) (id : Int) (hid : (Lit.int .i64 id).wf = true) (t : Tr) (ht : m id = some t) :
    Calls Try.prog 40 #[.pointer (some ⟨rb, 0, none⟩), .int .i64 id] w (RetHas t w) := by
  obtain ⟨ta, tb, tc, td, te, tr⟩ := t
  have hb0 := (Below.refl w.heap.size w).alloc (Nat.le_refl _) (.cells (tcells 0 0 0 0 0 (.slice none 0 0)) 58)
  have HR0 := Lib.hid (Row.new w 58 (tcells 0 0 0 0 0 (.slice none 0 0)))
  have h0 := h.up hb0
  have c0 := h0.row.cell 0
  simp only [List.getElem?_toArray, List.getElem?_cons_zero] at c0
  obtain ⟨D, hown, hD⟩ := h0.map
  obtain ⟨D', hown', hD'⟩ := h.map
  obtain ⟨v, ⟨vt, rfl, hvr⟩, hat⟩ := (hD id).2 _ ht
  have hvr2 : Rd w w.heap.size vt (ivals tr) := by
    have hDD : D = D' := by
      obtain ⟨es, ck, e1, _, _, e2⟩ := hown
      obtain ⟨es', ck', e1', _, _, e2'⟩ := hown'
      rw [hb0.block mb (by obtain ⟨h', _⟩ := Array.getElem?_eq_some_iff.1 e1'; exact h')] at e1
      rw [e1] at e1'
      injection e1' with e1'
      injection e1' with e3 e4
      subst e3
      rw [e2, e2']
    obtain ⟨v2, ⟨vt2, hv2, hr2⟩, hat2⟩ := (hD' id).2 _ ht
    subst hDD
    have := (hat (.held zeroT)).symm.trans (hat2 (.held zeroT))
    injection this with this
    rw [hv2] at this
    simp at this
    subst this
    exact hr2
  have HVR := Lib.hid hvr2
  obtain ⟨A, cc, rfl, -, -⟩ := hvr2
  rw [ivals_length] at HVR hat
  have HB0 := Lib.hid (below2 w (.cells (tcells ta tb tc td te (.slice A tr.length cc)) 58) (.cells (tcells ta tb tc td te (.slice A tr.length cc)) 58))
  have HR1 := Lib.hid ((Row.new w 58 (tcells ta tb tc td te (.slice A tr.length cc))).alloc (.cells (tcells ta tb tc td te (.slice A tr.length cc)) 58))
  clear hvr hb0 h0 hD hD' hown' h HR0
  go_enter Try.func40, Try.ntmps40
  go_wp2_with (first
    | (at_lookup; refine wpList_find_some _ rfl _ _ rfl mb n D rfl hown id rfl hid _ hat ?_)
    | fail)
  refine bodyPost_ret (results_cell_tmp_row rfl _ _ w.heap.size 58 (tcells ta tb tc td te (.slice A tr.length cc)) (0, 0) _ rfl HR1.out Try.underlying58 rfl Try.size58) rfl ?_
  exact ⟨_, HVR.out, rfl, HB0.out⟩

set_option maxHeartbeats 4000000 in
theorem find_none (w : World) (rb mb n : Nat) (m : Mp) (h : Reg w rb mb n m) (id : Int) (hid : (Lit.int .i64 id).wf = true) (ht : m id = none) :
    Calls Try.prog 40 #[.pointer (some ⟨rb, 0, none⟩), .int .i64 id] w (RetFind 0 0 0 0 0 (.slice none 0 0) false w) := by
  have HR0 := Lib.hid (Row.new w 58 (tcells 0 0 0 0 0 (.slice none 0 0)))
  have h0 := h.up ((Below.refl _ _).alloc (Nat.le_refl _) (.cells (tcells 0 0 0 0 0 (.slice none 0 0)) 58))
  have c0 := h0.row.cell 0
  simp only [List.getElem?_toArray, List.getElem?_cons_zero] at c0
  obtain ⟨D, hown, hD⟩ := h0.map
  have hno : Maps.has D (.int .i64 id) = false := by rw [(hD id).1, ht]; rfl
  have HB0 := Lib.hid (below2 w (.cells (tcells 0 0 0 0 0 (.slice none 0 0)) 58) (.cells (tcells 0 0 0 0 0 (.slice none 0 0)) 58))
  have HR1 := Lib.hid (HR0.out.alloc (.cells (tcells 0 0 0 0 0 (.slice none 0 0)) 58))
  clear h0 hD h HR0
  go_enter Try.func40, Try.ntmps40
  go_wp2_with (first
    | (at_lookup; refine wpList_find_none _ rfl _ _ rfl mb n D rfl hown id rfl hid hno ?_)
    | fail)
  refine bodyPost_ret (results_cell_tmp_row rfl _ _ w.heap.size 58 (tcells 0 0 0 0 0 (.slice none 0 0)) (0, 0) _ rfl HR1.out Try.underlying58 rfl Try.size58) rfl ?_
  exact ⟨rfl, HB0.out⟩

end Go.Proofs.Ytifcgkpannlnnaa
