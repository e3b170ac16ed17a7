/- Get, of one that has a session. -/
import Derived.Test.YtifcgkpannlnnaaF15
namespace Go.Proofs.Ytifcgkpannlnnaa
open Go.RowKit Fl Go.Maps
set_option maxRecDepth 100000

set_option maxHeartbeats 4000000 in
theorem find_at (w : World) (rb mb n : Nat) (D : DataW Value) (hrow : Row w rb 93 #[.map (some mb)]) (ho : w.ownsMap Try.prog 3 heldV mb n D) (id : Int) (hid : (Lit.int .i64 id).wf = true) (ta tb tc td te : Int) (A : Option Addr) (k cc : Nat)
    (hat : ∀ z, D.atKey (.int .i64 id) z = .held (.agg (tcells ta tb tc td te (.slice A k cc)))) :
    Calls Try.prog 40 #[.pointer (some ⟨rb, 0, none⟩), .int .i64 id] w (RetFind ta tb tc td te (.slice A k cc) true w) := by
  have hb0 := (Below.refl w.heap.size w).alloc (Nat.le_refl _) (.cells (tcells 0 0 0 0 0 (.slice none 0 0)) 58)
  have hown := below_map ho hb0 ho.lt
  have hr0 := Below.row hb0 hrow hrow.lt
  have c0 := hr0.cell 0
  simp only [List.getElem?_toArray, List.getElem?_cons_zero] at c0
  have HB0 := Lib.hid (below2 w (.cells (tcells ta tb tc td te (.slice A k cc)) 58) (.cells (tcells ta tb tc td te (.slice A k cc)) 58))
  have HR1 := Lib.hid ((Row.new w 58 (tcells ta tb tc td te (.slice A k cc))).alloc (.cells (tcells ta tb tc td te (.slice A k cc)) 58))
  clear hb0 hr0 ho hrow
  go_enter Try.func40, Try.ntmps40
  go_wp2_with (first
    | (at_lookup; refine wpList_find_some _ rfl _ _ rfl mb n D rfl hown id rfl hid _ hat ?_)
    | fail)
  refine bodyPost_ret (results_cell_tmp_row rfl _ _ w.heap.size 58 (tcells ta tb tc td te (.slice A k cc)) (0, 0) _ rfl HR1.out Try.underlying58 rfl Try.size58) rfl ?_
  exact ⟨rfl, HB0.out⟩

theorem get_some (w : World) (rb mb n : Nat) (m : Mp) (h : Reg w rb mb n m) (id : Int) (hid : (Lit.int .i64 id).wf = true) (t : Tr) (ht : m id = some t) (hl : t.trail.length ≤ 100000) :
    Calls Try.prog 26 #[.pointer (some ⟨rb, 0, none⟩), .int .i64 id] w (RetGet t.id t.heard t.sure t.dir t.ahead t.trail true w) := by
  obtain ⟨D, ho, hD⟩ := h.map
  obtain ⟨v, ⟨vt, rfl, hr⟩, hat⟩ := (hD id).2 t ht
  have hr2 := hr
  obtain ⟨A, c, rfl, h2, h3⟩ := hr2
  refine get_of w _ id t.id t.heard t.sure t.dir t.ahead _ t.trail true hr hl fun W hW => ?_
  exact find_at W rb mb n D (Below.row hW h.row h.row.lt) (below_map ho hW ho.lt) id hid _ _ _ _ _ _ _ _ hat

end Go.Proofs.Ytifcgkpannlnnaa
