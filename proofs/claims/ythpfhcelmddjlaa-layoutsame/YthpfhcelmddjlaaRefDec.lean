/- Contract: the document's Decode: any bytes. -/
import Derived.Test.YthpfhcelmddjlaaBL
namespace Go.Proofs.Ythpfhcelmddjlaa
open Go.RowKit Fl
set_option maxRecDepth 100000

/-- The document's own variables: the result, nothing, the layout. -/
structure Tri (W : World) (n0 n1 n2 : Nat) (C : Array Value) : Prop where
  res : Row W n0 33 #[.slice none 0 0, .slice none 0 0, .slice none 0 0, .slice none 0 0, .slice none 0 0, .int .i64 0, .int .i64 0, .int .i64 0, .int .i64 0, .int .i64 0]
  non : Row W n1 33 #[.slice none 0 0, .slice none 0 0, .slice none 0 0, .slice none 0 0, .slice none 0 0, .int .i64 0, .int .i64 0, .int .i64 0, .int .i64 0, .int .i64 0]
  lay : Row W n2 33 C
  ne : n0 ≠ n1 ∧ n0 ≠ n2 ∧ n1 ≠ n2

theorem Tri.kept {W W' : World} {n0 n1 n2 : Nat} {C : Array Value} {S : List Nat} (h : Tri W n0 n1 n2 C) (hk : KeptL S W W') (h0 : n0 ∉ S) (h1 : n1 ∉ S) (h2 : n2 ∉ S) : Tri W' n0 n1 n2 C :=
  ⟨hk.row h.res h0, hk.row h.non h1, hk.row h.lay h2, h.ne⟩
theorem Tri.keptG {W W' : World} {n0 n1 n2 g : Nat} {C : Array Value} (h : Tri W n0 n1 n2 C) (hk : KeptL [g] W W') {c : Array Value} (hg : Row W g 119 c) : Tri W' n0 n1 n2 C :=
  h.kept hk (by intro e; exact Row.ne h.res hg (by decide) (List.mem_singleton.1 e)) (by intro e; exact Row.ne h.non hg (by decide) (List.mem_singleton.1 e)) (by intro e; exact Row.ne h.lay hg (by decide) (List.mem_singleton.1 e))
theorem Tri.fresh {W W' : World} {n0 n1 n2 : Nat} {C : Array Value} (h : Tri W n0 n1 n2 C) (hb : Below W.heap.size W W') : Tri W' n0 n1 n2 C := h.kept (KeptL.of_below (S := []) hb) (by simp) (by simp) (by simp)
theorem Tri.set {W : World} {n0 n1 n2 : Nat} {C : Array Value} (h : Tri W n0 n1 n2 C) (i : Nat) (u : Value) : Tri (W.setCell ⟨n2, i, none⟩ u) n0 n1 n2 (C.setIfInBounds i u) :=
  ⟨h.res.far (p := ⟨n2, i, none⟩) h.ne.2.1 u, h.non.far (p := ⟨n2, i, none⟩) h.ne.2.2 u, h.lay.set i u, h.ne⟩
theorem Tri.grown {W W' : World} {n0 n1 n2 B : Nat} {C : Array Value} {row : Option Nat} (h : Tri W n0 n1 n2 C) (hg : W.grownBy W' row) (hr : ∀ k, row = some k → B ≤ k) (h0 : n0 < B ∧ n1 < B ∧ n2 < B) : Tri W' n0 n1 n2 C :=
  ⟨h.res.grown hg (fun e => by have := hr n0 e.symm; omega), h.non.grown hg (fun e => by have := hr n1 e.symm; omega), h.lay.grown hg (fun e => by have := hr n2 e.symm; omega), h.ne⟩

theorem tri_of (w : World) : Tri (((w.alloc (.cells #[.slice none 0 0, .slice none 0 0, .slice none 0 0, .slice none 0 0, .slice none 0 0, .int .i64 0, .int .i64 0, .int .i64 0, .int .i64 0, .int .i64 0] 33)).alloc (.cells #[.slice none 0 0, .slice none 0 0, .slice none 0 0, .slice none 0 0, .slice none 0 0, .int .i64 0, .int .i64 0, .int .i64 0, .int .i64 0, .int .i64 0] 33)).alloc (.cells #[.slice none 0 0, .slice none 0 0, .slice none 0 0, .slice none 0 0, .slice none 0 0, .int .i64 0, .int .i64 0, .int .i64 0, .int .i64 0, .int .i64 0] 33)) w.heap.size (w.heap.size + 1) (w.heap.size + 1 + 1) #[.slice none 0 0, .slice none 0 0, .slice none 0 0, .slice none 0 0, .slice none 0 0, .int .i64 0, .int .i64 0, .int .i64 0, .int .i64 0, .int .i64 0] := by
  have r1 := Row.new w 33 #[.slice none 0 0, .slice none 0 0, .slice none 0 0, .slice none 0 0, .slice none 0 0, .int .i64 0, .int .i64 0, .int .i64 0, .int .i64 0, .int .i64 0]
  have r2 := Row.new (w.alloc (.cells #[.slice none 0 0, .slice none 0 0, .slice none 0 0, .slice none 0 0, .slice none 0 0, .int .i64 0, .int .i64 0, .int .i64 0, .int .i64 0, .int .i64 0] 33)) 33 #[.slice none 0 0, .slice none 0 0, .slice none 0 0, .slice none 0 0, .slice none 0 0, .int .i64 0, .int .i64 0, .int .i64 0, .int .i64 0, .int .i64 0]
  have r3 := Row.new ((w.alloc (.cells #[.slice none 0 0, .slice none 0 0, .slice none 0 0, .slice none 0 0, .slice none 0 0, .int .i64 0, .int .i64 0, .int .i64 0, .int .i64 0, .int .i64 0] 33)).alloc (.cells #[.slice none 0 0, .slice none 0 0, .slice none 0 0, .slice none 0 0, .slice none 0 0, .int .i64 0, .int .i64 0, .int .i64 0, .int .i64 0, .int .i64 0] 33)) 33 #[.slice none 0 0, .slice none 0 0, .slice none 0 0, .slice none 0 0, .slice none 0 0, .int .i64 0, .int .i64 0, .int .i64 0, .int .i64 0, .int .i64 0]
  simp only [World.size_alloc] at r1 r2 r3
  exact ⟨(r1.alloc _).alloc _, r2.alloc _, r3, by omega⟩

theorem below3 (w : World) (a b c : Obj) : Below w.heap.size w (((w.alloc a).alloc b).alloc c) :=
  (((Below.refl _ _).alloc (Nat.le_refl _) _).alloc (by simp) _).alloc (by simp [World.size_alloc]; omega) _

theorem IS.of_own {w : World} {base : Nat} {v : Value} {l : List Bool} {g : Nat} (h : w.ownsRow base 4 1 v l.length (cvals l)) (hr : Row w g 119 #[v, .bool false]) (hl : l.length ≤ 100000) (d : Nat) (hd : d < w.heap.size) : ∃ b0, IS w b0 g (some l) ∧ (b0 = d ∨ base ≤ b0) ∧ b0 < w.heap.size ∧ (b0 ≠ d → b0 ≠ g) := by
  rcases h.2 with ⟨rfl, h0⟩ | ⟨r, cap, cur, hv, hb, hh, hcap, _⟩
  · refine ⟨d, ⟨⟨none, 0, by rw [h0]; exact hr, by omega, fun hp => by omega⟩, hl⟩, Or.inl rfl, hd, fun hn => absurd rfl hn⟩
  · subst hv
    refine ⟨r, ⟨⟨some ⟨r, 0, none⟩, cap, hr, hcap, fun _ => ⟨0, rfl, fun j hj => ?_⟩⟩, hl⟩, Or.inr hb, heap_lt hh, fun _ => ?_⟩
    · rw [Nat.zero_add, h.cellAt j (by omega)]; exact cvals_get l j hj
    · exact Row.ne (t := 4) hh hr (by decide)

theorem back {α : Type} {p : St → α × St} (hs : Strict p) {s : St} (h : (p s).2 ≠ none) : s ≠ none := by rintro rfl; exact h hs

theorem other_gl {w : World} {g k : Nat} {c1 c2 : Array Value} (hg : Row w g 119 c1) (hk : Row w k 33 c2) : ∀ t ∈ [47, 50, 51, 53, 3], Other w t [g, k] := by
  intro t ht
  simp only [List.mem_cons, List.not_mem_nil, or_false] at ht
  rcases ht with rfl | rfl | rfl | rfl | rfl <;> exact Other.two hg (by decide) hk (by decide)


set_option maxHeartbeats 16000000 in
theorem refDecode_short (w : World) (v : Value) (q : List Nat) (h : Rd w w.heap.size v (bvals q)) (hq : ∀ x ∈ q, x < 256) (_ : q.length ≤ 4000) (h2 : q.length < 2) : Calls Try.prog 48 #[v] w (RetDec (L0, 4) w) := by
  have HT0 := Lib.hid (tri_of w)
  have HB0 := Lib.hid (below3 w (.cells #[.slice none 0 0, .slice none 0 0, .slice none 0 0, .slice none 0 0, .slice none 0 0, .int .i64 0, .int .i64 0, .int .i64 0, .int .i64 0, .int .i64 0] 33) (.cells #[.slice none 0 0, .slice none 0 0, .slice none 0 0, .slice none 0 0, .slice none 0 0, .int .i64 0, .int .i64 0, .int .i64 0, .int .i64 0, .int .i64 0] 33) (.cells #[.slice none 0 0, .slice none 0 0, .slice none 0 0, .slice none 0 0, .slice none 0 0, .int .i64 0, .int .i64 0, .int .i64 0, .int .i64 0, .int .i64 0] 33))
  have HV : Hid (Rd (((w.alloc (.cells #[.slice none 0 0, .slice none 0 0, .slice none 0 0, .slice none 0 0, .slice none 0 0, .int .i64 0, .int .i64 0, .int .i64 0, .int .i64 0, .int .i64 0] 33)).alloc (.cells #[.slice none 0 0, .slice none 0 0, .slice none 0 0, .slice none 0 0, .slice none 0 0, .int .i64 0, .int .i64 0, .int .i64 0, .int .i64 0, .int .i64 0] 33)).alloc (.cells #[.slice none 0 0, .slice none 0 0, .slice none 0 0, .slice none 0 0, .slice none 0 0, .int .i64 0, .int .i64 0, .int .i64 0, .int .i64 0, .int .i64 0] 33)) (((w.alloc (.cells #[.slice none 0 0, .slice none 0 0, .slice none 0 0, .slice none 0 0, .slice none 0 0, .int .i64 0, .int .i64 0, .int .i64 0, .int .i64 0, .int .i64 0] 33)).alloc (.cells #[.slice none 0 0, .slice none 0 0, .slice none 0 0, .slice none 0 0, .slice none 0 0, .int .i64 0, .int .i64 0, .int .i64 0, .int .i64 0, .int .i64 0] 33)).alloc (.cells #[.slice none 0 0, .slice none 0 0, .slice none 0 0, .slice none 0 0, .slice none 0 0, .int .i64 0, .int .i64 0, .int .i64 0, .int .i64 0, .int .i64 0] 33)).heap.size v (bvals q)) := h.up HB0.out
  have HQ := Lib.hid hq
  clear h hq
  go_enter Try.func48, Try.ntmps48
  go_upto_region 2 with (fail)
  generalize ((w.alloc (.cells #[.slice none 0 0, .slice none 0 0, .slice none 0 0, .slice none 0 0, .slice none 0 0, .int .i64 0, .int .i64 0, .int .i64 0, .int .i64 0, .int .i64 0] 33)).alloc (.cells #[.slice none 0 0, .slice none 0 0, .slice none 0 0, .slice none 0 0, .slice none 0 0, .int .i64 0, .int .i64 0, .int .i64 0, .int .i64 0, .int .i64 0] 33)).alloc (.cells #[.slice none 0 0, .slice none 0 0, .slice none 0 0, .slice none 0 0, .slice none 0 0, .int .i64 0, .int .i64 0, .int .i64 0, .int .i64 0, .int .i64 0] 33) = W0 at *
  generalize hb1 : w.heap.size + 1 = n1 at *
  generalize hb2 : n1 + 1 = n2 at *
  obtain ⟨n0, hn0⟩ : ∃ n, n = w.heap.size := ⟨_, rfl⟩
  rw [← hn0] at HT0 HB0 ⊢
  have HN : Hid (n0 = w.heap.size ∧ n1 = n0 + 1 ∧ n2 = n0 + 2) := by refine ⟨?_, ?_, ?_⟩ <;> omega
  clear hn0 hb1 hb2
  have HH := Lib.hid h2; clear h2
  go_wp2_with fail
  refine (refOpen_short W0 _ v q HV.out HH.out).mono ?_
  rintro e W1 ⟨rfl, rfl⟩
  have q0 := HT0.out.res.cell 0; have r0 := HT0.out.res.frozen 0; have p0 := HT0.out.non.cell 0
  have q1 := HT0.out.res.cell 1; have r1 := HT0.out.res.frozen 1; have p1 := HT0.out.non.cell 1
  have q2 := HT0.out.res.cell 2; have r2 := HT0.out.res.frozen 2; have p2 := HT0.out.non.cell 2
  have q3 := HT0.out.res.cell 3; have r3 := HT0.out.res.frozen 3; have p3 := HT0.out.non.cell 3
  have q4 := HT0.out.res.cell 4; have r4 := HT0.out.res.frozen 4; have p4 := HT0.out.non.cell 4
  have q5 := HT0.out.res.cell 5; have r5 := HT0.out.res.frozen 5; have p5 := HT0.out.non.cell 5
  have q6 := HT0.out.res.cell 6; have r6 := HT0.out.res.frozen 6; have p6 := HT0.out.non.cell 6
  have q7 := HT0.out.res.cell 7; have r7 := HT0.out.res.frozen 7; have p7 := HT0.out.non.cell 7
  have q8 := HT0.out.res.cell 8; have r8 := HT0.out.res.frozen 8; have p8 := HT0.out.non.cell 8
  have q9 := HT0.out.res.cell 9; have r9 := HT0.out.res.frozen 9; have p9 := HT0.out.non.cell 9
  simp only [List.getElem?_toArray, List.getElem?_cons_zero, List.getElem?_cons_succ] at q0 p0 q1 p1 q2 p2 q3 p3 q4 p4 q5 p5 q6 p6 q7 p7 q8 p8 q9 p9
  go_wp2_with fail
  have rr0 : Row (W0.setCell ⟨n0, 0, none⟩ (.slice none 0 0)) n0 33 #[.slice none 0 0, .slice none 0 0, .slice none 0 0, .slice none 0 0, .slice none 0 0, .int .i64 0, .int .i64 0, .int .i64 0, .int .i64 0, .int .i64 0] := HT0.out.res.set 0 (.slice none 0 0)
  have kk0 : Below n0 W0 (W0.setCell ⟨n0, 0, none⟩ (.slice none 0 0)) := (Below.refl n0 W0).setCell (p := ⟨n0, 0, none⟩) (Nat.le_refl _) (.slice none 0 0)
  have rr1 : Row ((W0.setCell ⟨n0, 0, none⟩ (.slice none 0 0)).setCell ⟨n0, 1, none⟩ (.slice none 0 0)) n0 33 #[.slice none 0 0, .slice none 0 0, .slice none 0 0, .slice none 0 0, .slice none 0 0, .int .i64 0, .int .i64 0, .int .i64 0, .int .i64 0, .int .i64 0] := rr0.set 1 (.slice none 0 0)
  have kk1 : Below n0 W0 ((W0.setCell ⟨n0, 0, none⟩ (.slice none 0 0)).setCell ⟨n0, 1, none⟩ (.slice none 0 0)) := kk0.setCell (p := ⟨n0, 1, none⟩) (Nat.le_refl _) (.slice none 0 0)
  have rr2 : Row (((W0.setCell ⟨n0, 0, none⟩ (.slice none 0 0)).setCell ⟨n0, 1, none⟩ (.slice none 0 0)).setCell ⟨n0, 2, none⟩ (.slice none 0 0)) n0 33 #[.slice none 0 0, .slice none 0 0, .slice none 0 0, .slice none 0 0, .slice none 0 0, .int .i64 0, .int .i64 0, .int .i64 0, .int .i64 0, .int .i64 0] := rr1.set 2 (.slice none 0 0)
  have kk2 : Below n0 W0 (((W0.setCell ⟨n0, 0, none⟩ (.slice none 0 0)).setCell ⟨n0, 1, none⟩ (.slice none 0 0)).setCell ⟨n0, 2, none⟩ (.slice none 0 0)) := kk1.setCell (p := ⟨n0, 2, none⟩) (Nat.le_refl _) (.slice none 0 0)
  have rr3 : Row ((((W0.setCell ⟨n0, 0, none⟩ (.slice none 0 0)).setCell ⟨n0, 1, none⟩ (.slice none 0 0)).setCell ⟨n0, 2, none⟩ (.slice none 0 0)).setCell ⟨n0, 3, none⟩ (.slice none 0 0)) n0 33 #[.slice none 0 0, .slice none 0 0, .slice none 0 0, .slice none 0 0, .slice none 0 0, .int .i64 0, .int .i64 0, .int .i64 0, .int .i64 0, .int .i64 0] := rr2.set 3 (.slice none 0 0)
  have kk3 : Below n0 W0 ((((W0.setCell ⟨n0, 0, none⟩ (.slice none 0 0)).setCell ⟨n0, 1, none⟩ (.slice none 0 0)).setCell ⟨n0, 2, none⟩ (.slice none 0 0)).setCell ⟨n0, 3, none⟩ (.slice none 0 0)) := kk2.setCell (p := ⟨n0, 3, none⟩) (Nat.le_refl _) (.slice none 0 0)
  have rr4 : Row (((((W0.setCell ⟨n0, 0, none⟩ (.slice none 0 0)).setCell ⟨n0, 1, none⟩ (.slice none 0 0)).setCell ⟨n0, 2, none⟩ (.slice none 0 0)).setCell ⟨n0, 3, none⟩ (.slice none 0 0)).setCell ⟨n0, 4, none⟩ (.slice none 0 0)) n0 33 #[.slice none 0 0, .slice none 0 0, .slice none 0 0, .slice none 0 0, .slice none 0 0, .int .i64 0, .int .i64 0, .int .i64 0, .int .i64 0, .int .i64 0] := rr3.set 4 (.slice none 0 0)
  have kk4 : Below n0 W0 (((((W0.setCell ⟨n0, 0, none⟩ (.slice none 0 0)).setCell ⟨n0, 1, none⟩ (.slice none 0 0)).setCell ⟨n0, 2, none⟩ (.slice none 0 0)).setCell ⟨n0, 3, none⟩ (.slice none 0 0)).setCell ⟨n0, 4, none⟩ (.slice none 0 0)) := kk3.setCell (p := ⟨n0, 4, none⟩) (Nat.le_refl _) (.slice none 0 0)
  have rr5 : Row ((((((W0.setCell ⟨n0, 0, none⟩ (.slice none 0 0)).setCell ⟨n0, 1, none⟩ (.slice none 0 0)).setCell ⟨n0, 2, none⟩ (.slice none 0 0)).setCell ⟨n0, 3, none⟩ (.slice none 0 0)).setCell ⟨n0, 4, none⟩ (.slice none 0 0)).setCell ⟨n0, 5, none⟩ (.int .i64 0)) n0 33 #[.slice none 0 0, .slice none 0 0, .slice none 0 0, .slice none 0 0, .slice none 0 0, .int .i64 0, .int .i64 0, .int .i64 0, .int .i64 0, .int .i64 0] := rr4.set 5 (.int .i64 0)
  have kk5 : Below n0 W0 ((((((W0.setCell ⟨n0, 0, none⟩ (.slice none 0 0)).setCell ⟨n0, 1, none⟩ (.slice none 0 0)).setCell ⟨n0, 2, none⟩ (.slice none 0 0)).setCell ⟨n0, 3, none⟩ (.slice none 0 0)).setCell ⟨n0, 4, none⟩ (.slice none 0 0)).setCell ⟨n0, 5, none⟩ (.int .i64 0)) := kk4.setCell (p := ⟨n0, 5, none⟩) (Nat.le_refl _) (.int .i64 0)
  have rr6 : Row (((((((W0.setCell ⟨n0, 0, none⟩ (.slice none 0 0)).setCell ⟨n0, 1, none⟩ (.slice none 0 0)).setCell ⟨n0, 2, none⟩ (.slice none 0 0)).setCell ⟨n0, 3, none⟩ (.slice none 0 0)).setCell ⟨n0, 4, none⟩ (.slice none 0 0)).setCell ⟨n0, 5, none⟩ (.int .i64 0)).setCell ⟨n0, 6, none⟩ (.int .i64 0)) n0 33 #[.slice none 0 0, .slice none 0 0, .slice none 0 0, .slice none 0 0, .slice none 0 0, .int .i64 0, .int .i64 0, .int .i64 0, .int .i64 0, .int .i64 0] := rr5.set 6 (.int .i64 0)
  have kk6 : Below n0 W0 (((((((W0.setCell ⟨n0, 0, none⟩ (.slice none 0 0)).setCell ⟨n0, 1, none⟩ (.slice none 0 0)).setCell ⟨n0, 2, none⟩ (.slice none 0 0)).setCell ⟨n0, 3, none⟩ (.slice none 0 0)).setCell ⟨n0, 4, none⟩ (.slice none 0 0)).setCell ⟨n0, 5, none⟩ (.int .i64 0)).setCell ⟨n0, 6, none⟩ (.int .i64 0)) := kk5.setCell (p := ⟨n0, 6, none⟩) (Nat.le_refl _) (.int .i64 0)
  have rr7 : Row ((((((((W0.setCell ⟨n0, 0, none⟩ (.slice none 0 0)).setCell ⟨n0, 1, none⟩ (.slice none 0 0)).setCell ⟨n0, 2, none⟩ (.slice none 0 0)).setCell ⟨n0, 3, none⟩ (.slice none 0 0)).setCell ⟨n0, 4, none⟩ (.slice none 0 0)).setCell ⟨n0, 5, none⟩ (.int .i64 0)).setCell ⟨n0, 6, none⟩ (.int .i64 0)).setCell ⟨n0, 7, none⟩ (.int .i64 0)) n0 33 #[.slice none 0 0, .slice none 0 0, .slice none 0 0, .slice none 0 0, .slice none 0 0, .int .i64 0, .int .i64 0, .int .i64 0, .int .i64 0, .int .i64 0] := rr6.set 7 (.int .i64 0)
  have kk7 : Below n0 W0 ((((((((W0.setCell ⟨n0, 0, none⟩ (.slice none 0 0)).setCell ⟨n0, 1, none⟩ (.slice none 0 0)).setCell ⟨n0, 2, none⟩ (.slice none 0 0)).setCell ⟨n0, 3, none⟩ (.slice none 0 0)).setCell ⟨n0, 4, none⟩ (.slice none 0 0)).setCell ⟨n0, 5, none⟩ (.int .i64 0)).setCell ⟨n0, 6, none⟩ (.int .i64 0)).setCell ⟨n0, 7, none⟩ (.int .i64 0)) := kk6.setCell (p := ⟨n0, 7, none⟩) (Nat.le_refl _) (.int .i64 0)
  have rr8 : Row (((((((((W0.setCell ⟨n0, 0, none⟩ (.slice none 0 0)).setCell ⟨n0, 1, none⟩ (.slice none 0 0)).setCell ⟨n0, 2, none⟩ (.slice none 0 0)).setCell ⟨n0, 3, none⟩ (.slice none 0 0)).setCell ⟨n0, 4, none⟩ (.slice none 0 0)).setCell ⟨n0, 5, none⟩ (.int .i64 0)).setCell ⟨n0, 6, none⟩ (.int .i64 0)).setCell ⟨n0, 7, none⟩ (.int .i64 0)).setCell ⟨n0, 8, none⟩ (.int .i64 0)) n0 33 #[.slice none 0 0, .slice none 0 0, .slice none 0 0, .slice none 0 0, .slice none 0 0, .int .i64 0, .int .i64 0, .int .i64 0, .int .i64 0, .int .i64 0] := rr7.set 8 (.int .i64 0)
  have kk8 : Below n0 W0 (((((((((W0.setCell ⟨n0, 0, none⟩ (.slice none 0 0)).setCell ⟨n0, 1, none⟩ (.slice none 0 0)).setCell ⟨n0, 2, none⟩ (.slice none 0 0)).setCell ⟨n0, 3, none⟩ (.slice none 0 0)).setCell ⟨n0, 4, none⟩ (.slice none 0 0)).setCell ⟨n0, 5, none⟩ (.int .i64 0)).setCell ⟨n0, 6, none⟩ (.int .i64 0)).setCell ⟨n0, 7, none⟩ (.int .i64 0)).setCell ⟨n0, 8, none⟩ (.int .i64 0)) := kk7.setCell (p := ⟨n0, 8, none⟩) (Nat.le_refl _) (.int .i64 0)
  have rr9 : Row ((((((((((W0.setCell ⟨n0, 0, none⟩ (.slice none 0 0)).setCell ⟨n0, 1, none⟩ (.slice none 0 0)).setCell ⟨n0, 2, none⟩ (.slice none 0 0)).setCell ⟨n0, 3, none⟩ (.slice none 0 0)).setCell ⟨n0, 4, none⟩ (.slice none 0 0)).setCell ⟨n0, 5, none⟩ (.int .i64 0)).setCell ⟨n0, 6, none⟩ (.int .i64 0)).setCell ⟨n0, 7, none⟩ (.int .i64 0)).setCell ⟨n0, 8, none⟩ (.int .i64 0)).setCell ⟨n0, 9, none⟩ (.int .i64 0)) n0 33 #[.slice none 0 0, .slice none 0 0, .slice none 0 0, .slice none 0 0, .slice none 0 0, .int .i64 0, .int .i64 0, .int .i64 0, .int .i64 0, .int .i64 0] := rr8.set 9 (.int .i64 0)
  have kk9 : Below n0 W0 ((((((((((W0.setCell ⟨n0, 0, none⟩ (.slice none 0 0)).setCell ⟨n0, 1, none⟩ (.slice none 0 0)).setCell ⟨n0, 2, none⟩ (.slice none 0 0)).setCell ⟨n0, 3, none⟩ (.slice none 0 0)).setCell ⟨n0, 4, none⟩ (.slice none 0 0)).setCell ⟨n0, 5, none⟩ (.int .i64 0)).setCell ⟨n0, 6, none⟩ (.int .i64 0)).setCell ⟨n0, 7, none⟩ (.int .i64 0)).setCell ⟨n0, 8, none⟩ (.int .i64 0)).setCell ⟨n0, 9, none⟩ (.int .i64 0)) := kk8.setCell (p := ⟨n0, 9, none⟩) (Nat.le_refl _) (.int .i64 0)
  refine bodyPost_ret (results_cell_tmp_row rfl _ _ n0 33 #[.slice none 0 0, .slice none 0 0, .slice none 0 0, .slice none 0 0, .slice none 0 0, .int .i64 0, .int .i64 0, .int .i64 0, .int .i64 0, .int .i64 0] (0, 0) _ rfl rr9 Try.underlying33 rfl Try.size33) rfl ?_
  exact ⟨_, rfl, lay0 _ _, by rw [← HN.out.1]; exact HB0.out.trans kk9⟩

set_option maxHeartbeats 16000000 in
theorem refDecode_bad (w : World) (v : Value) (q : List Nat) (h : Rd w w.heap.size v (bvals q)) (hq : ∀ x ∈ q, x < 256) (hl : q.length ≤ 4000) (h2 : 2 ≤ q.length) (hne : sumOf (q.take (q.length - 2)) ≠ tailNum q) : Calls Try.prog 48 #[v] w (RetDec (L0, 3) w) := by
  have HT0 := Lib.hid (tri_of w)
  have HB0 := Lib.hid (below3 w (.cells #[.slice none 0 0, .slice none 0 0, .slice none 0 0, .slice none 0 0, .slice none 0 0, .int .i64 0, .int .i64 0, .int .i64 0, .int .i64 0, .int .i64 0] 33) (.cells #[.slice none 0 0, .slice none 0 0, .slice none 0 0, .slice none 0 0, .slice none 0 0, .int .i64 0, .int .i64 0, .int .i64 0, .int .i64 0, .int .i64 0] 33) (.cells #[.slice none 0 0, .slice none 0 0, .slice none 0 0, .slice none 0 0, .slice none 0 0, .int .i64 0, .int .i64 0, .int .i64 0, .int .i64 0, .int .i64 0] 33))
  have HV : Hid (Rd (((w.alloc (.cells #[.slice none 0 0, .slice none 0 0, .slice none 0 0, .slice none 0 0, .slice none 0 0, .int .i64 0, .int .i64 0, .int .i64 0, .int .i64 0, .int .i64 0] 33)).alloc (.cells #[.slice none 0 0, .slice none 0 0, .slice none 0 0, .slice none 0 0, .slice none 0 0, .int .i64 0, .int .i64 0, .int .i64 0, .int .i64 0, .int .i64 0] 33)).alloc (.cells #[.slice none 0 0, .slice none 0 0, .slice none 0 0, .slice none 0 0, .slice none 0 0, .int .i64 0, .int .i64 0, .int .i64 0, .int .i64 0, .int .i64 0] 33)) (((w.alloc (.cells #[.slice none 0 0, .slice none 0 0, .slice none 0 0, .slice none 0 0, .slice none 0 0, .int .i64 0, .int .i64 0, .int .i64 0, .int .i64 0, .int .i64 0] 33)).alloc (.cells #[.slice none 0 0, .slice none 0 0, .slice none 0 0, .slice none 0 0, .slice none 0 0, .int .i64 0, .int .i64 0, .int .i64 0, .int .i64 0, .int .i64 0] 33)).alloc (.cells #[.slice none 0 0, .slice none 0 0, .slice none 0 0, .slice none 0 0, .slice none 0 0, .int .i64 0, .int .i64 0, .int .i64 0, .int .i64 0, .int .i64 0] 33)).heap.size v (bvals q)) := h.up HB0.out
  have HQ := Lib.hid hq
  clear h hq
  go_enter Try.func48, Try.ntmps48
  go_upto_region 2 with (fail)
  generalize ((w.alloc (.cells #[.slice none 0 0, .slice none 0 0, .slice none 0 0, .slice none 0 0, .slice none 0 0, .int .i64 0, .int .i64 0, .int .i64 0, .int .i64 0, .int .i64 0] 33)).alloc (.cells #[.slice none 0 0, .slice none 0 0, .slice none 0 0, .slice none 0 0, .slice none 0 0, .int .i64 0, .int .i64 0, .int .i64 0, .int .i64 0, .int .i64 0] 33)).alloc (.cells #[.slice none 0 0, .slice none 0 0, .slice none 0 0, .slice none 0 0, .slice none 0 0, .int .i64 0, .int .i64 0, .int .i64 0, .int .i64 0, .int .i64 0] 33) = W0 at *
  generalize hb1 : w.heap.size + 1 = n1 at *
  generalize hb2 : n1 + 1 = n2 at *
  obtain ⟨n0, hn0⟩ : ∃ n, n = w.heap.size := ⟨_, rfl⟩
  rw [← hn0] at HT0 HB0 ⊢
  have HN : Hid (n0 = w.heap.size ∧ n1 = n0 + 1 ∧ n2 = n0 + 2) := by refine ⟨?_, ?_, ?_⟩ <;> omega
  clear hn0 hb1 hb2
  have HH := Lib.hid hne; clear hne
  go_wp2_with fail
  refine (refOpen_bad W0 _ v q HV.out (Nat.le_refl _) HQ.out (by omega) h2 HH.out).mono ?_
  rintro e W1 ⟨rfl, hb1⟩
  have HT1 := Lib.hid (HT0.out.fresh hb1)
  have HB1 := Lib.hid (HB0.out.trans (hb1.mono (by have := HT0.out.res.lt; omega)))
  clear hb1
  have q0 := HT1.out.res.cell 0; have r0 := HT1.out.res.frozen 0; have p0 := HT1.out.non.cell 0
  have q1 := HT1.out.res.cell 1; have r1 := HT1.out.res.frozen 1; have p1 := HT1.out.non.cell 1
  have q2 := HT1.out.res.cell 2; have r2 := HT1.out.res.frozen 2; have p2 := HT1.out.non.cell 2
  have q3 := HT1.out.res.cell 3; have r3 := HT1.out.res.frozen 3; have p3 := HT1.out.non.cell 3
  have q4 := HT1.out.res.cell 4; have r4 := HT1.out.res.frozen 4; have p4 := HT1.out.non.cell 4
  have q5 := HT1.out.res.cell 5; have r5 := HT1.out.res.frozen 5; have p5 := HT1.out.non.cell 5
  have q6 := HT1.out.res.cell 6; have r6 := HT1.out.res.frozen 6; have p6 := HT1.out.non.cell 6
  have q7 := HT1.out.res.cell 7; have r7 := HT1.out.res.frozen 7; have p7 := HT1.out.non.cell 7
  have q8 := HT1.out.res.cell 8; have r8 := HT1.out.res.frozen 8; have p8 := HT1.out.non.cell 8
  have q9 := HT1.out.res.cell 9; have r9 := HT1.out.res.frozen 9; have p9 := HT1.out.non.cell 9
  simp only [List.getElem?_toArray, List.getElem?_cons_zero, List.getElem?_cons_succ] at q0 p0 q1 p1 q2 p2 q3 p3 q4 p4 q5 p5 q6 p6 q7 p7 q8 p8 q9 p9
  go_wp2_with fail
  have rr0 : Row (W1.setCell ⟨n0, 0, none⟩ (.slice none 0 0)) n0 33 #[.slice none 0 0, .slice none 0 0, .slice none 0 0, .slice none 0 0, .slice none 0 0, .int .i64 0, .int .i64 0, .int .i64 0, .int .i64 0, .int .i64 0] := HT1.out.res.set 0 (.slice none 0 0)
  have kk0 : Below n0 W1 (W1.setCell ⟨n0, 0, none⟩ (.slice none 0 0)) := (Below.refl n0 W1).setCell (p := ⟨n0, 0, none⟩) (Nat.le_refl _) (.slice none 0 0)
  have rr1 : Row ((W1.setCell ⟨n0, 0, none⟩ (.slice none 0 0)).setCell ⟨n0, 1, none⟩ (.slice none 0 0)) n0 33 #[.slice none 0 0, .slice none 0 0, .slice none 0 0, .slice none 0 0, .slice none 0 0, .int .i64 0, .int .i64 0, .int .i64 0, .int .i64 0, .int .i64 0] := rr0.set 1 (.slice none 0 0)
  have kk1 : Below n0 W1 ((W1.setCell ⟨n0, 0, none⟩ (.slice none 0 0)).setCell ⟨n0, 1, none⟩ (.slice none 0 0)) := kk0.setCell (p := ⟨n0, 1, none⟩) (Nat.le_refl _) (.slice none 0 0)
  have rr2 : Row (((W1.setCell ⟨n0, 0, none⟩ (.slice none 0 0)).setCell ⟨n0, 1, none⟩ (.slice none 0 0)).setCell ⟨n0, 2, none⟩ (.slice none 0 0)) n0 33 #[.slice none 0 0, .slice none 0 0, .slice none 0 0, .slice none 0 0, .slice none 0 0, .int .i64 0, .int .i64 0, .int .i64 0, .int .i64 0, .int .i64 0] := rr1.set 2 (.slice none 0 0)
  have kk2 : Below n0 W1 (((W1.setCell ⟨n0, 0, none⟩ (.slice none 0 0)).setCell ⟨n0, 1, none⟩ (.slice none 0 0)).setCell ⟨n0, 2, none⟩ (.slice none 0 0)) := kk1.setCell (p := ⟨n0, 2, none⟩) (Nat.le_refl _) (.slice none 0 0)
  have rr3 : Row ((((W1.setCell ⟨n0, 0, none⟩ (.slice none 0 0)).setCell ⟨n0, 1, none⟩ (.slice none 0 0)).setCell ⟨n0, 2, none⟩ (.slice none 0 0)).setCell ⟨n0, 3, none⟩ (.slice none 0 0)) n0 33 #[.slice none 0 0, .slice none 0 0, .slice none 0 0, .slice none 0 0, .slice none 0 0, .int .i64 0, .int .i64 0, .int .i64 0, .int .i64 0, .int .i64 0] := rr2.set 3 (.slice none 0 0)
  have kk3 : Below n0 W1 ((((W1.setCell ⟨n0, 0, none⟩ (.slice none 0 0)).setCell ⟨n0, 1, none⟩ (.slice none 0 0)).setCell ⟨n0, 2, none⟩ (.slice none 0 0)).setCell ⟨n0, 3, none⟩ (.slice none 0 0)) := kk2.setCell (p := ⟨n0, 3, none⟩) (Nat.le_refl _) (.slice none 0 0)
  have rr4 : Row (((((W1.setCell ⟨n0, 0, none⟩ (.slice none 0 0)).setCell ⟨n0, 1, none⟩ (.slice none 0 0)).setCell ⟨n0, 2, none⟩ (.slice none 0 0)).setCell ⟨n0, 3, none⟩ (.slice none 0 0)).setCell ⟨n0, 4, none⟩ (.slice none 0 0)) n0 33 #[.slice none 0 0, .slice none 0 0, .slice none 0 0, .slice none 0 0, .slice none 0 0, .int .i64 0, .int .i64 0, .int .i64 0, .int .i64 0, .int .i64 0] := rr3.set 4 (.slice none 0 0)
  have kk4 : Below n0 W1 (((((W1.setCell ⟨n0, 0, none⟩ (.slice none 0 0)).setCell ⟨n0, 1, none⟩ (.slice none 0 0)).setCell ⟨n0, 2, none⟩ (.slice none 0 0)).setCell ⟨n0, 3, none⟩ (.slice none 0 0)).setCell ⟨n0, 4, none⟩ (.slice none 0 0)) := kk3.setCell (p := ⟨n0, 4, none⟩) (Nat.le_refl _) (.slice none 0 0)
  have rr5 : Row ((((((W1.setCell ⟨n0, 0, none⟩ (.slice none 0 0)).setCell ⟨n0, 1, none⟩ (.slice none 0 0)).setCell ⟨n0, 2, none⟩ (.slice none 0 0)).setCell ⟨n0, 3, none⟩ (.slice none 0 0)).setCell ⟨n0, 4, none⟩ (.slice none 0 0)).setCell ⟨n0, 5, none⟩ (.int .i64 0)) n0 33 #[.slice none 0 0, .slice none 0 0, .slice none 0 0, .slice none 0 0, .slice none 0 0, .int .i64 0, .int .i64 0, .int .i64 0, .int .i64 0, .int .i64 0] := rr4.set 5 (.int .i64 0)
  have kk5 : Below n0 W1 ((((((W1.setCell ⟨n0, 0, none⟩ (.slice none 0 0)).setCell ⟨n0, 1, none⟩ (.slice none 0 0)).setCell ⟨n0, 2, none⟩ (.slice none 0 0)).setCell ⟨n0, 3, none⟩ (.slice none 0 0)).setCell ⟨n0, 4, none⟩ (.slice none 0 0)).setCell ⟨n0, 5, none⟩ (.int .i64 0)) := kk4.setCell (p := ⟨n0, 5, none⟩) (Nat.le_refl _) (.int .i64 0)
  have rr6 : Row (((((((W1.setCell ⟨n0, 0, none⟩ (.slice none 0 0)).setCell ⟨n0, 1, none⟩ (.slice none 0 0)).setCell ⟨n0, 2, none⟩ (.slice none 0 0)).setCell ⟨n0, 3, none⟩ (.slice none 0 0)).setCell ⟨n0, 4, none⟩ (.slice none 0 0)).setCell ⟨n0, 5, none⟩ (.int .i64 0)).setCell ⟨n0, 6, none⟩ (.int .i64 0)) n0 33 #[.slice none 0 0, .slice none 0 0, .slice none 0 0, .slice none 0 0, .slice none 0 0, .int .i64 0, .int .i64 0, .int .i64 0, .int .i64 0, .int .i64 0] := rr5.set 6 (.int .i64 0)
  have kk6 : Below n0 W1 (((((((W1.setCell ⟨n0, 0, none⟩ (.slice none 0 0)).setCell ⟨n0, 1, none⟩ (.slice none 0 0)).setCell ⟨n0, 2, none⟩ (.slice none 0 0)).setCell ⟨n0, 3, none⟩ (.slice none 0 0)).setCell ⟨n0, 4, none⟩ (.slice none 0 0)).setCell ⟨n0, 5, none⟩ (.int .i64 0)).setCell ⟨n0, 6, none⟩ (.int .i64 0)) := kk5.setCell (p := ⟨n0, 6, none⟩) (Nat.le_refl _) (.int .i64 0)
  have rr7 : Row ((((((((W1.setCell ⟨n0, 0, none⟩ (.slice none 0 0)).setCell ⟨n0, 1, none⟩ (.slice none 0 0)).setCell ⟨n0, 2, none⟩ (.slice none 0 0)).setCell ⟨n0, 3, none⟩ (.slice none 0 0)).setCell ⟨n0, 4, none⟩ (.slice none 0 0)).setCell ⟨n0, 5, none⟩ (.int .i64 0)).setCell ⟨n0, 6, none⟩ (.int .i64 0)).setCell ⟨n0, 7, none⟩ (.int .i64 0)) n0 33 #[.slice none 0 0, .slice none 0 0, .slice none 0 0, .slice none 0 0, .slice none 0 0, .int .i64 0, .int .i64 0, .int .i64 0, .int .i64 0, .int .i64 0] := rr6.set 7 (.int .i64 0)
  have kk7 : Below n0 W1 ((((((((W1.setCell ⟨n0, 0, none⟩ (.slice none 0 0)).setCell ⟨n0, 1, none⟩ (.slice none 0 0)).setCell ⟨n0, 2, none⟩ (.slice none 0 0)).setCell ⟨n0, 3, none⟩ (.slice none 0 0)).setCell ⟨n0, 4, none⟩ (.slice none 0 0)).setCell ⟨n0, 5, none⟩ (.int .i64 0)).setCell ⟨n0, 6, none⟩ (.int .i64 0)).setCell ⟨n0, 7, none⟩ (.int .i64 0)) := kk6.setCell (p := ⟨n0, 7, none⟩) (Nat.le_refl _) (.int .i64 0)
  have rr8 : Row (((((((((W1.setCell ⟨n0, 0, none⟩ (.slice none 0 0)).setCell ⟨n0, 1, none⟩ (.slice none 0 0)).setCell ⟨n0, 2, none⟩ (.slice none 0 0)).setCell ⟨n0, 3, none⟩ (.slice none 0 0)).setCell ⟨n0, 4, none⟩ (.slice none 0 0)).setCell ⟨n0, 5, none⟩ (.int .i64 0)).setCell ⟨n0, 6, none⟩ (.int .i64 0)).setCell ⟨n0, 7, none⟩ (.int .i64 0)).setCell ⟨n0, 8, none⟩ (.int .i64 0)) n0 33 #[.slice none 0 0, .slice none 0 0, .slice none 0 0, .slice none 0 0, .slice none 0 0, .int .i64 0, .int .i64 0, .int .i64 0, .int .i64 0, .int .i64 0] := rr7.set 8 (.int .i64 0)
  have kk8 : Below n0 W1 (((((((((W1.setCell ⟨n0, 0, none⟩ (.slice none 0 0)).setCell ⟨n0, 1, none⟩ (.slice none 0 0)).setCell ⟨n0, 2, none⟩ (.slice none 0 0)).setCell ⟨n0, 3, none⟩ (.slice none 0 0)).setCell ⟨n0, 4, none⟩ (.slice none 0 0)).setCell ⟨n0, 5, none⟩ (.int .i64 0)).setCell ⟨n0, 6, none⟩ (.int .i64 0)).setCell ⟨n0, 7, none⟩ (.int .i64 0)).setCell ⟨n0, 8, none⟩ (.int .i64 0)) := kk7.setCell (p := ⟨n0, 8, none⟩) (Nat.le_refl _) (.int .i64 0)
  have rr9 : Row ((((((((((W1.setCell ⟨n0, 0, none⟩ (.slice none 0 0)).setCell ⟨n0, 1, none⟩ (.slice none 0 0)).setCell ⟨n0, 2, none⟩ (.slice none 0 0)).setCell ⟨n0, 3, none⟩ (.slice none 0 0)).setCell ⟨n0, 4, none⟩ (.slice none 0 0)).setCell ⟨n0, 5, none⟩ (.int .i64 0)).setCell ⟨n0, 6, none⟩ (.int .i64 0)).setCell ⟨n0, 7, none⟩ (.int .i64 0)).setCell ⟨n0, 8, none⟩ (.int .i64 0)).setCell ⟨n0, 9, none⟩ (.int .i64 0)) n0 33 #[.slice none 0 0, .slice none 0 0, .slice none 0 0, .slice none 0 0, .slice none 0 0, .int .i64 0, .int .i64 0, .int .i64 0, .int .i64 0, .int .i64 0] := rr8.set 9 (.int .i64 0)
  have kk9 : Below n0 W1 ((((((((((W1.setCell ⟨n0, 0, none⟩ (.slice none 0 0)).setCell ⟨n0, 1, none⟩ (.slice none 0 0)).setCell ⟨n0, 2, none⟩ (.slice none 0 0)).setCell ⟨n0, 3, none⟩ (.slice none 0 0)).setCell ⟨n0, 4, none⟩ (.slice none 0 0)).setCell ⟨n0, 5, none⟩ (.int .i64 0)).setCell ⟨n0, 6, none⟩ (.int .i64 0)).setCell ⟨n0, 7, none⟩ (.int .i64 0)).setCell ⟨n0, 8, none⟩ (.int .i64 0)).setCell ⟨n0, 9, none⟩ (.int .i64 0)) := kk8.setCell (p := ⟨n0, 9, none⟩) (Nat.le_refl _) (.int .i64 0)
  refine bodyPost_ret (results_cell_tmp_row rfl _ _ n0 33 #[.slice none 0 0, .slice none 0 0, .slice none 0 0, .slice none 0 0, .slice none 0 0, .int .i64 0, .int .i64 0, .int .i64 0, .int .i64 0, .int .i64 0] (0, 0) _ rfl rr9 Try.underlying33 rfl Try.size33) rfl ?_
  exact ⟨_, rfl, lay0 _ _, by rw [← HN.out.1]; exact HB1.out.trans kk9⟩

set_option maxHeartbeats 16000000 in
theorem refDecode_form (w : World) (v : Value) (q : List Nat) (h : Rd w w.heap.size v (bvals q)) (hq : ∀ x ∈ q, x < 256) (hl : q.length ≤ 4000) (h2 : 2 ≤ q.length) (heq : sumOf (q.take (q.length - 2)) = tailNum q) (hbl : begins (q.take (q.length - 2)) = false) : Calls Try.prog 48 #[v] w (RetDec (L0, 2) w) := by
  have HT0 := Lib.hid (tri_of w)
  have HB0 := Lib.hid (below3 w (.cells #[.slice none 0 0, .slice none 0 0, .slice none 0 0, .slice none 0 0, .slice none 0 0, .int .i64 0, .int .i64 0, .int .i64 0, .int .i64 0, .int .i64 0] 33) (.cells #[.slice none 0 0, .slice none 0 0, .slice none 0 0, .slice none 0 0, .slice none 0 0, .int .i64 0, .int .i64 0, .int .i64 0, .int .i64 0, .int .i64 0] 33) (.cells #[.slice none 0 0, .slice none 0 0, .slice none 0 0, .slice none 0 0, .slice none 0 0, .int .i64 0, .int .i64 0, .int .i64 0, .int .i64 0, .int .i64 0] 33))
  have HV : Hid (Rd (((w.alloc (.cells #[.slice none 0 0, .slice none 0 0, .slice none 0 0, .slice none 0 0, .slice none 0 0, .int .i64 0, .int .i64 0, .int .i64 0, .int .i64 0, .int .i64 0] 33)).alloc (.cells #[.slice none 0 0, .slice none 0 0, .slice none 0 0, .slice none 0 0, .slice none 0 0, .int .i64 0, .int .i64 0, .int .i64 0, .int .i64 0, .int .i64 0] 33)).alloc (.cells #[.slice none 0 0, .slice none 0 0, .slice none 0 0, .slice none 0 0, .slice none 0 0, .int .i64 0, .int .i64 0, .int .i64 0, .int .i64 0, .int .i64 0] 33)) (((w.alloc (.cells #[.slice none 0 0, .slice none 0 0, .slice none 0 0, .slice none 0 0, .slice none 0 0, .int .i64 0, .int .i64 0, .int .i64 0, .int .i64 0, .int .i64 0] 33)).alloc (.cells #[.slice none 0 0, .slice none 0 0, .slice none 0 0, .slice none 0 0, .slice none 0 0, .int .i64 0, .int .i64 0, .int .i64 0, .int .i64 0, .int .i64 0] 33)).alloc (.cells #[.slice none 0 0, .slice none 0 0, .slice none 0 0, .slice none 0 0, .slice none 0 0, .int .i64 0, .int .i64 0, .int .i64 0, .int .i64 0, .int .i64 0] 33)).heap.size v (bvals q)) := h.up HB0.out
  have HQ := Lib.hid hq
  clear h hq
  go_enter Try.func48, Try.ntmps48
  go_upto_region 2 with (fail)
  generalize ((w.alloc (.cells #[.slice none 0 0, .slice none 0 0, .slice none 0 0, .slice none 0 0, .slice none 0 0, .int .i64 0, .int .i64 0, .int .i64 0, .int .i64 0, .int .i64 0] 33)).alloc (.cells #[.slice none 0 0, .slice none 0 0, .slice none 0 0, .slice none 0 0, .slice none 0 0, .int .i64 0, .int .i64 0, .int .i64 0, .int .i64 0, .int .i64 0] 33)).alloc (.cells #[.slice none 0 0, .slice none 0 0, .slice none 0 0, .slice none 0 0, .slice none 0 0, .int .i64 0, .int .i64 0, .int .i64 0, .int .i64 0, .int .i64 0] 33) = W0 at *
  generalize hb1 : w.heap.size + 1 = n1 at *
  generalize hb2 : n1 + 1 = n2 at *
  obtain ⟨n0, hn0⟩ : ∃ n, n = w.heap.size := ⟨_, rfl⟩
  rw [← hn0] at HT0 HB0 ⊢
  have HN : Hid (n0 = w.heap.size ∧ n1 = n0 + 1 ∧ n2 = n0 + 2) := by refine ⟨?_, ?_, ?_⟩ <;> omega
  clear hn0 hb1 hb2
  have HBL := Lib.hid hbl; clear hbl
  have HH := Lib.hid heq; clear heq
  go_wp2_with fail
  refine (refOpen_ok W0 _ v q HV.out (Nat.le_refl _) HQ.out (by omega) h2 HH.out).mono ?_
  rintro e W1 ⟨v1, rfl, hr1, hb1⟩
  have HR1 : Hid (Rd W1 W1.heap.size v1 (bvals (q.take (q.length - 2)))) := hr1.mono hb1.size fun _ _ => rfl
  have HT1 := Lib.hid (HT0.out.fresh hb1)
  have HB1 := Lib.hid (HB0.out.trans (hb1.mono (by have := HT0.out.res.lt; omega)))
  have HOQ : Hid (∀ x ∈ q.take (q.length - 2), x < 256) := fun x hx => HQ.out x (List.mem_of_mem_take hx)
  have HOL : Hid ((q.take (q.length - 2)).length ≤ 4000) := by show _ ≤ _; rw [List.length_take]; omega
  generalize q.take (q.length - 2) = o at *
  clear hr1 hb1
  obtain ⟨A1, c1, rfl, -, -⟩ := id HR1.out
  rw [bvals_length] at HR1 ⊢
  go_upto_region 5 with (fail)
  have HX : Hid (2 ≤ o.length → ∃ b p, A1 = some ⟨b, p, none⟩ ∧ W1.cell? ⟨b, p, none⟩ = some (.int .u8 ((o.getD 0 0 : Nat) : Int)) ∧ W1.cell? ⟨b, p + 1, none⟩ = some (.int .u8 ((o.getD 1 0 : Nat) : Int))) := by
    intro hlen
    obtain ⟨b, p, hA, _, h0⟩ := HR1.out.at (bvals_get o 0 (by omega))
    obtain ⟨b', p', hA', _, h1⟩ := HR1.out.at (bvals_get o 1 (by omega))
    rw [hA] at hA'
    obtain ⟨rfl, rfl⟩ : b = b' ∧ p = p' := by simpa using hA'
    refine ⟨b, p, hA, ?_, ?_⟩
    · have : o.getD 0 0 = o[0]'(by omega) := by simp [List.getD, show 0 < o.length by omega]
      rw [this]; simpa using h0
    · have : o.getD 1 0 = o[1]'(by omega) := by simp [List.getD, show 1 < o.length by omega]
      rw [this]; exact h1
  go_cut [43] (fun v wx => v = .bool (!begins o) ∧ wx = W1)
  case first =>
    have HOL2 := HOL.out
    by_cases hlen : 2 ≤ o.length
    · obtain ⟨b, p, rfl, g0, g1⟩ := HX.out hlen
      have HBG : Hid (begins o = (decide (o.getD 0 0 = 66) && decide (o.getD 1 0 = 76))) := by show _ = _; unfold begins; rw [decide_eq_true hlen, Bool.true_and]
      generalize o.getD 0 0 = x0 at *
      generalize o.getD 1 0 = x1 at *
      by_cases hx0 : x0 = 66
      · subst hx0
        by_cases hx1 : x1 = 76
        · subst hx1
          go_wp2_with fail
          go_meet
          case rel => exact ⟨by rw [HBG.out]; simp <;> omega, rfl⟩
        · have hne1 : ((x1 : Int) == 76) = false := by simp; omega
          go_wp2_with fail
          go_meet
          case rel => exact ⟨by rw [HBG.out, decide_eq_false hx1]; simp <;> omega, rfl⟩
      · have hne0 : ((x0 : Int) == 66) = false := by simp; omega
        go_wp2_with fail
        go_meet
        case rel => exact ⟨by rw [HBG.out, decide_eq_false hx0]; simp, rfl⟩
    · have HBG : Hid (begins o = false) := by show _ = _; unfold begins; rw [decide_eq_false hlen, Bool.false_and]
      go_wp2_with fail
      go_meet
      case rel => exact ⟨by rw [HBG.out]; rfl, rfl⟩
  case rest =>
  obtain ⟨rfl, rfl⟩ := hcut
  rw [HBL.out]
  have q0 := HT1.out.res.cell 0; have r0 := HT1.out.res.frozen 0; have p0 := HT1.out.non.cell 0
  have q1 := HT1.out.res.cell 1; have r1 := HT1.out.res.frozen 1; have p1 := HT1.out.non.cell 1
  have q2 := HT1.out.res.cell 2; have r2 := HT1.out.res.frozen 2; have p2 := HT1.out.non.cell 2
  have q3 := HT1.out.res.cell 3; have r3 := HT1.out.res.frozen 3; have p3 := HT1.out.non.cell 3
  have q4 := HT1.out.res.cell 4; have r4 := HT1.out.res.frozen 4; have p4 := HT1.out.non.cell 4
  have q5 := HT1.out.res.cell 5; have r5 := HT1.out.res.frozen 5; have p5 := HT1.out.non.cell 5
  have q6 := HT1.out.res.cell 6; have r6 := HT1.out.res.frozen 6; have p6 := HT1.out.non.cell 6
  have q7 := HT1.out.res.cell 7; have r7 := HT1.out.res.frozen 7; have p7 := HT1.out.non.cell 7
  have q8 := HT1.out.res.cell 8; have r8 := HT1.out.res.frozen 8; have p8 := HT1.out.non.cell 8
  have q9 := HT1.out.res.cell 9; have r9 := HT1.out.res.frozen 9; have p9 := HT1.out.non.cell 9
  simp only [List.getElem?_toArray, List.getElem?_cons_zero, List.getElem?_cons_succ] at q0 p0 q1 p1 q2 p2 q3 p3 q4 p4 q5 p5 q6 p6 q7 p7 q8 p8 q9 p9
  go_wp2_with fail
  have rr0 : Row (wc.setCell ⟨n0, 0, none⟩ (.slice none 0 0)) n0 33 #[.slice none 0 0, .slice none 0 0, .slice none 0 0, .slice none 0 0, .slice none 0 0, .int .i64 0, .int .i64 0, .int .i64 0, .int .i64 0, .int .i64 0] := HT1.out.res.set 0 (.slice none 0 0)
  have kk0 : Below n0 wc (wc.setCell ⟨n0, 0, none⟩ (.slice none 0 0)) := (Below.refl n0 wc).setCell (p := ⟨n0, 0, none⟩) (Nat.le_refl _) (.slice none 0 0)
  have rr1 : Row ((wc.setCell ⟨n0, 0, none⟩ (.slice none 0 0)).setCell ⟨n0, 1, none⟩ (.slice none 0 0)) n0 33 #[.slice none 0 0, .slice none 0 0, .slice none 0 0, .slice none 0 0, .slice none 0 0, .int .i64 0, .int .i64 0, .int .i64 0, .int .i64 0, .int .i64 0] := rr0.set 1 (.slice none 0 0)
  have kk1 : Below n0 wc ((wc.setCell ⟨n0, 0, none⟩ (.slice none 0 0)).setCell ⟨n0, 1, none⟩ (.slice none 0 0)) := kk0.setCell (p := ⟨n0, 1, none⟩) (Nat.le_refl _) (.slice none 0 0)
  have rr2 : Row (((wc.setCell ⟨n0, 0, none⟩ (.slice none 0 0)).setCell ⟨n0, 1, none⟩ (.slice none 0 0)).setCell ⟨n0, 2, none⟩ (.slice none 0 0)) n0 33 #[.slice none 0 0, .slice none 0 0, .slice none 0 0, .slice none 0 0, .slice none 0 0, .int .i64 0, .int .i64 0, .int .i64 0, .int .i64 0, .int .i64 0] := rr1.set 2 (.slice none 0 0)
  have kk2 : Below n0 wc (((wc.setCell ⟨n0, 0, none⟩ (.slice none 0 0)).setCell ⟨n0, 1, none⟩ (.slice none 0 0)).setCell ⟨n0, 2, none⟩ (.slice none 0 0)) := kk1.setCell (p := ⟨n0, 2, none⟩) (Nat.le_refl _) (.slice none 0 0)
  have rr3 : Row ((((wc.setCell ⟨n0, 0, none⟩ (.slice none 0 0)).setCell ⟨n0, 1, none⟩ (.slice none 0 0)).setCell ⟨n0, 2, none⟩ (.slice none 0 0)).setCell ⟨n0, 3, none⟩ (.slice none 0 0)) n0 33 #[.slice none 0 0, .slice none 0 0, .slice none 0 0, .slice none 0 0, .slice none 0 0, .int .i64 0, .int .i64 0, .int .i64 0, .int .i64 0, .int .i64 0] := rr2.set 3 (.slice none 0 0)
  have kk3 : Below n0 wc ((((wc.setCell ⟨n0, 0, none⟩ (.slice none 0 0)).setCell ⟨n0, 1, none⟩ (.slice none 0 0)).setCell ⟨n0, 2, none⟩ (.slice none 0 0)).setCell ⟨n0, 3, none⟩ (.slice none 0 0)) := kk2.setCell (p := ⟨n0, 3, none⟩) (Nat.le_refl _) (.slice none 0 0)
  have rr4 : Row (((((wc.setCell ⟨n0, 0, none⟩ (.slice none 0 0)).setCell ⟨n0, 1, none⟩ (.slice none 0 0)).setCell ⟨n0, 2, none⟩ (.slice none 0 0)).setCell ⟨n0, 3, none⟩ (.slice none 0 0)).setCell ⟨n0, 4, none⟩ (.slice none 0 0)) n0 33 #[.slice none 0 0, .slice none 0 0, .slice none 0 0, .slice none 0 0, .slice none 0 0, .int .i64 0, .int .i64 0, .int .i64 0, .int .i64 0, .int .i64 0] := rr3.set 4 (.slice none 0 0)
  have kk4 : Below n0 wc (((((wc.setCell ⟨n0, 0, none⟩ (.slice none 0 0)).setCell ⟨n0, 1, none⟩ (.slice none 0 0)).setCell ⟨n0, 2, none⟩ (.slice none 0 0)).setCell ⟨n0, 3, none⟩ (.slice none 0 0)).setCell ⟨n0, 4, none⟩ (.slice none 0 0)) := kk3.setCell (p := ⟨n0, 4, none⟩) (Nat.le_refl _) (.slice none 0 0)
  have rr5 : Row ((((((wc.setCell ⟨n0, 0, none⟩ (.slice none 0 0)).setCell ⟨n0, 1, none⟩ (.slice none 0 0)).setCell ⟨n0, 2, none⟩ (.slice none 0 0)).setCell ⟨n0, 3, none⟩ (.slice none 0 0)).setCell ⟨n0, 4, none⟩ (.slice none 0 0)).setCell ⟨n0, 5, none⟩ (.int .i64 0)) n0 33 #[.slice none 0 0, .slice none 0 0, .slice none 0 0, .slice none 0 0, .slice none 0 0, .int .i64 0, .int .i64 0, .int .i64 0, .int .i64 0, .int .i64 0] := rr4.set 5 (.int .i64 0)
  have kk5 : Below n0 wc ((((((wc.setCell ⟨n0, 0, none⟩ (.slice none 0 0)).setCell ⟨n0, 1, none⟩ (.slice none 0 0)).setCell ⟨n0, 2, none⟩ (.slice none 0 0)).setCell ⟨n0, 3, none⟩ (.slice none 0 0)).setCell ⟨n0, 4, none⟩ (.slice none 0 0)).setCell ⟨n0, 5, none⟩ (.int .i64 0)) := kk4.setCell (p := ⟨n0, 5, none⟩) (Nat.le_refl _) (.int .i64 0)
  have rr6 : Row (((((((wc.setCell ⟨n0, 0, none⟩ (.slice none 0 0)).setCell ⟨n0, 1, none⟩ (.slice none 0 0)).setCell ⟨n0, 2, none⟩ (.slice none 0 0)).setCell ⟨n0, 3, none⟩ (.slice none 0 0)).setCell ⟨n0, 4, none⟩ (.slice none 0 0)).setCell ⟨n0, 5, none⟩ (.int .i64 0)).setCell ⟨n0, 6, none⟩ (.int .i64 0)) n0 33 #[.slice none 0 0, .slice none 0 0, .slice none 0 0, .slice none 0 0, .slice none 0 0, .int .i64 0, .int .i64 0, .int .i64 0, .int .i64 0, .int .i64 0] := rr5.set 6 (.int .i64 0)
  have kk6 : Below n0 wc (((((((wc.setCell ⟨n0, 0, none⟩ (.slice none 0 0)).setCell ⟨n0, 1, none⟩ (.slice none 0 0)).setCell ⟨n0, 2, none⟩ (.slice none 0 0)).setCell ⟨n0, 3, none⟩ (.slice none 0 0)).setCell ⟨n0, 4, none⟩ (.slice none 0 0)).setCell ⟨n0, 5, none⟩ (.int .i64 0)).setCell ⟨n0, 6, none⟩ (.int .i64 0)) := kk5.setCell (p := ⟨n0, 6, none⟩) (Nat.le_refl _) (.int .i64 0)
  have rr7 : Row ((((((((wc.setCell ⟨n0, 0, none⟩ (.slice none 0 0)).setCell ⟨n0, 1, none⟩ (.slice none 0 0)).setCell ⟨n0, 2, none⟩ (.slice none 0 0)).setCell ⟨n0, 3, none⟩ (.slice none 0 0)).setCell ⟨n0, 4, none⟩ (.slice none 0 0)).setCell ⟨n0, 5, none⟩ (.int .i64 0)).setCell ⟨n0, 6, none⟩ (.int .i64 0)).setCell ⟨n0, 7, none⟩ (.int .i64 0)) n0 33 #[.slice none 0 0, .slice none 0 0, .slice none 0 0, .slice none 0 0, .slice none 0 0, .int .i64 0, .int .i64 0, .int .i64 0, .int .i64 0, .int .i64 0] := rr6.set 7 (.int .i64 0)
  have kk7 : Below n0 wc ((((((((wc.setCell ⟨n0, 0, none⟩ (.slice none 0 0)).setCell ⟨n0, 1, none⟩ (.slice none 0 0)).setCell ⟨n0, 2, none⟩ (.slice none 0 0)).setCell ⟨n0, 3, none⟩ (.slice none 0 0)).setCell ⟨n0, 4, none⟩ (.slice none 0 0)).setCell ⟨n0, 5, none⟩ (.int .i64 0)).setCell ⟨n0, 6, none⟩ (.int .i64 0)).setCell ⟨n0, 7, none⟩ (.int .i64 0)) := kk6.setCell (p := ⟨n0, 7, none⟩) (Nat.le_refl _) (.int .i64 0)
  have rr8 : Row (((((((((wc.setCell ⟨n0, 0, none⟩ (.slice none 0 0)).setCell ⟨n0, 1, none⟩ (.slice none 0 0)).setCell ⟨n0, 2, none⟩ (.slice none 0 0)).setCell ⟨n0, 3, none⟩ (.slice none 0 0)).setCell ⟨n0, 4, none⟩ (.slice none 0 0)).setCell ⟨n0, 5, none⟩ (.int .i64 0)).setCell ⟨n0, 6, none⟩ (.int .i64 0)).setCell ⟨n0, 7, none⟩ (.int .i64 0)).setCell ⟨n0, 8, none⟩ (.int .i64 0)) n0 33 #[.slice none 0 0, .slice none 0 0, .slice none 0 0, .slice none 0 0, .slice none 0 0, .int .i64 0, .int .i64 0, .int .i64 0, .int .i64 0, .int .i64 0] := rr7.set 8 (.int .i64 0)
  have kk8 : Below n0 wc (((((((((wc.setCell ⟨n0, 0, none⟩ (.slice none 0 0)).setCell ⟨n0, 1, none⟩ (.slice none 0 0)).setCell ⟨n0, 2, none⟩ (.slice none 0 0)).setCell ⟨n0, 3, none⟩ (.slice none 0 0)).setCell ⟨n0, 4, none⟩ (.slice none 0 0)).setCell ⟨n0, 5, none⟩ (.int .i64 0)).setCell ⟨n0, 6, none⟩ (.int .i64 0)).setCell ⟨n0, 7, none⟩ (.int .i64 0)).setCell ⟨n0, 8, none⟩ (.int .i64 0)) := kk7.setCell (p := ⟨n0, 8, none⟩) (Nat.le_refl _) (.int .i64 0)
  have rr9 : Row ((((((((((wc.setCell ⟨n0, 0, none⟩ (.slice none 0 0)).setCell ⟨n0, 1, none⟩ (.slice none 0 0)).setCell ⟨n0, 2, none⟩ (.slice none 0 0)).setCell ⟨n0, 3, none⟩ (.slice none 0 0)).setCell ⟨n0, 4, none⟩ (.slice none 0 0)).setCell ⟨n0, 5, none⟩ (.int .i64 0)).setCell ⟨n0, 6, none⟩ (.int .i64 0)).setCell ⟨n0, 7, none⟩ (.int .i64 0)).setCell ⟨n0, 8, none⟩ (.int .i64 0)).setCell ⟨n0, 9, none⟩ (.int .i64 0)) n0 33 #[.slice none 0 0, .slice none 0 0, .slice none 0 0, .slice none 0 0, .slice none 0 0, .int .i64 0, .int .i64 0, .int .i64 0, .int .i64 0, .int .i64 0] := rr8.set 9 (.int .i64 0)
  have kk9 : Below n0 wc ((((((((((wc.setCell ⟨n0, 0, none⟩ (.slice none 0 0)).setCell ⟨n0, 1, none⟩ (.slice none 0 0)).setCell ⟨n0, 2, none⟩ (.slice none 0 0)).setCell ⟨n0, 3, none⟩ (.slice none 0 0)).setCell ⟨n0, 4, none⟩ (.slice none 0 0)).setCell ⟨n0, 5, none⟩ (.int .i64 0)).setCell ⟨n0, 6, none⟩ (.int .i64 0)).setCell ⟨n0, 7, none⟩ (.int .i64 0)).setCell ⟨n0, 8, none⟩ (.int .i64 0)).setCell ⟨n0, 9, none⟩ (.int .i64 0)) := kk8.setCell (p := ⟨n0, 9, none⟩) (Nat.le_refl _) (.int .i64 0)
  refine bodyPost_ret (results_cell_tmp_row rfl _ _ n0 33 #[.slice none 0 0, .slice none 0 0, .slice none 0 0, .slice none 0 0, .slice none 0 0, .int .i64 0, .int .i64 0, .int .i64 0, .int .i64 0, .int .i64 0] (0, 0) _ rfl rr9 Try.underlying33 rfl Try.size33) rfl ?_
  exact ⟨_, rfl, lay0 _ _, by rw [← HN.out.1]; exact HB1.out.trans kk9⟩

end Go.Proofs.Ythpfhcelmddjlaa
