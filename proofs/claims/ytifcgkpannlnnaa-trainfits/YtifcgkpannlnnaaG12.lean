/- Contracts: Clone of points. -/
import Derived.Test.YtifcgkpannlnnaaG11
import Derived.Lib.SliceRun
namespace Go.Proofs.Ytifcgkpannlnnaa
open Go.RowKit Fl
set_option maxRecDepth 100000

theorem Try.info74n : (Try.prog.info? 72).map (fun i => (i.zero, i.size, i.bytes)) = some (some (.agg #[.int .i64 0, .int .i64 0, .int .i64 0, .int .i64 0]), 4, 32) := by kernel_rfl

theorem pcells_len (xs : List (Int × Int × Int × Int)) : (pcells xs).length = xs.length * 4 := by
  induction xs with
  | nil => rfl
  | cons a r ih => simp [pcells] at ih ⊢; omega
theorem pcells_one (xs : List (Int × Int × Int × Int)) : ∀ u ∈ pcells xs, u.oneCell' = true := by
  intro u hu; simp only [pcells, List.mem_flatMap] at hu; obtain ⟨x, _, h⟩ := hu; simp at h; rcases h with rfl | rfl | rfl | rfl <;> rfl

theorem Pts.cells {w : World} {D n c : Nat} {A : Option Addr} {xs : List (Int × Int × Int × Int)} (h : Pts w D (.slice A n c) xs) (hp : 0 < xs.length) : ∃ b o, A = some ⟨b, o, none⟩ ∧ b < D ∧ ∀ j u, (pcells xs)[j]? = some u → w.cell? ((⟨b, o, none⟩ : Addr).add j) = some u := by
  obtain ⟨b, o, hA, hb, -⟩ := h.at 0 hp
  subst hA
  refine ⟨b, o, rfl, hb, fun j u hu => ?_⟩
  have hj : j < xs.length * 4 := by have := (List.getElem?_eq_some_iff.1 hu).1; rw [pcells_len] at this; exact this
  have hadd : ((⟨b, o, none⟩ : Addr).add j) = ⟨b, o + j, none⟩ := by simp [Addr.add]
  rw [hadd]
  have hk : j / 4 < xs.length := by omega
  obtain ⟨a1, a2, a3, a4⟩ := pcells_get xs (j / 4) hk
  obtain ⟨b', o', hA', _, c1, c2, c3, c4⟩ := h.at (j / 4) hk
  injection hA' with hA'
  injection hA' with e1 e2
  subst e1 e2
  rcases (show j % 4 = 0 ∨ j % 4 = 1 ∨ j % 4 = 2 ∨ j % 4 = 3 by omega) with e | e | e | e
  · have ej : j = j / 4 * 4 := by omega
    rw [ej] at hu ⊢; rw [a1] at hu; rw [← hu]; exact c1
  · have ej : j = j / 4 * 4 + 1 := by omega
    rw [ej] at hu ⊢; rw [a2] at hu; rw [← hu, ← Nat.add_assoc]; exact c2
  · have ej : j = j / 4 * 4 + 2 := by omega
    rw [ej] at hu ⊢; rw [a3] at hu; rw [← hu, ← Nat.add_assoc]; exact c3
  · have ej : j = j / 4 * 4 + 3 := by omega
    rw [ej] at hu ⊢; rw [a4] at hu; rw [← hu, ← Nat.add_assoc]; exact c4

theorem Pts.of_own {w : World} {B n : Nat} {t : TypeId} {v : Value} {xs : List (Int × Int × Int × Int)} (h : w.ownsRow B t 4 v n (pcells xs)) : Pts w w.heap.size v xs := by
  have hn : xs.length = n := by have := h.1; rw [pcells_len] at this; omega
  subst hn
  rcases h.2 with ⟨rfl, h0⟩ | ⟨g, cap, cur, hv, _, hh, hcap, _⟩
  · exact ⟨none, 0, by rw [h0], fun hp => by omega⟩
  · subst hv
    refine ⟨_, _, rfl, fun _ => ⟨g, 0, rfl, heap_lt hh, fun j hj => ?_⟩⟩
    obtain ⟨a, b, c, d⟩ := pcells_get xs j hj
    rw [Nat.zero_add]
    exact ⟨by rw [h.cellAt _ (by omega)]; exact a, by rw [h.cellAt _ (by omega)]; exact b, by rw [h.cellAt _ (by omega)]; exact c, by rw [h.cellAt _ (by omega)]; exact d⟩

def RetPts (ps : List (Int × Int × Int × Int)) (w : World) (e : Ending) (w' : World) : Prop := ∃ v', e = .returned v' ∧ Pts w' w'.heap.size v' ps ∧ Below w.heap.size w w'

set_option maxHeartbeats 1000000 in
theorem clone37 (w : World) (D : Nat) (v : Value) (ps : List (Int × Int × Int × Int)) (h : Pts w D v ps) (hl : ps.length ≤ 1000) : Calls Try.prog 33 #[v] w (RetPts ps w) := by
  have hP := h
  obtain ⟨A, c, rfl, hx⟩ := h
  obtain ⟨i4, hi4, hz40, hz41, hz42⟩ := info_parts Try.info74n
  cases A with
  | none =>
    have h0 : ps = [] := by
      rcases Nat.eq_zero_or_pos ps.length with e | e
      · exact List.length_eq_zero_iff.1 e
      · obtain ⟨b, o, e1, _⟩ := hx e; cases e1
    subst h0
    have kn := fun (w : World) (l c : Nat) => Lib.run_eql_slice_nil (P := Try.prog) w 34 72 none l c 0 0 Try.underlying34
    clear hx hP
    go_enter Try.func33, Try.ntmps33
    go_wp2_with fail
    go_ret
    exact ⟨_, rfl, ⟨none, 0, rfl, fun hp => absurd hp (by simp)⟩, Below.refl _ _⟩
  | some ad =>
    have kn := fun (w : World) (l c : Nat) => Lib.run_eql_slice_nil (P := Try.prog) w 34 72 (some ad) l c 0 0 Try.underlying34
    have HN : Hid (∀ j u, (pcells ps)[j]? = some u → (w.alloc (.cells #[] 72)).cell? (ad.add j) = some u) := fun j u hu => by
      have hpos : 0 < ps.length := by have := (List.getElem?_eq_some_iff.1 hu).1; rw [pcells_len] at this; omega
      obtain ⟨b, o, e, _, hc⟩ := hP.cells hpos
      injection e with e
      subst e
      exact cell_alloc (hc j u hu)
    have HO : Hid ((w.alloc (.cells #[] 72)).ownsRow w.heap.size 72 4 (.slice (some ⟨w.heap.size, 0, none⟩) 0 0) 0 []) := World.ownsRow_lit w #[] 0 (Nat.le_refl _) (by unfold maxLen; omega) rfl
    have HB := Lib.hid ((Below.refl w.heap.size w).alloc (Nat.le_refl _) (.cells #[] 72))
    clear hx hP
    go_enter Try.func33, Try.ntmps33
    go_wp2_with (at_builtin; refine wpList_append_own _ rfl (.tmp 5) (.tmp 6) 34 rfl w.heap.size 72 i4 (.agg #[.int .i64 0, .int .i64 0, .int .i64 0, .int .i64 0]) 4 32 Try.underlying34 hi4 hz40 hz41 hz42 rfl (by decide) _ _ _ rfl HO.out ad ps.length c (pcells ps) rfl (pcells_len ps) HN.out (pcells_one ps) (by unfold maxLen; omega) (by omega) (by simp) ?_)
    intro v5 w5 hown5 hgrow5 _
    have HO5 : Hid (w5.ownsRow w.heap.size 72 4 v5 ps.length (pcells ps)) := hown5
    have HB5 : Hid (Below w.heap.size w w5) := HB.out.grown hgrow5 (by simp) (fun k hk => (HO.out.lt k hk).1)
    clear hown5 hgrow5
    go_wp2_with fail
    go_ret
    exact ⟨_, rfl, Pts.of_own HO5.out, HB5.out⟩

end Go.Proofs.Ytifcgkpannlnnaa
