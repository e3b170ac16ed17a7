/- Contract: what is behind the letters, read. -/
import Derived.Test.YthpfhcelmddjlaaLetters
namespace Go.Proofs.Ythpfhcelmddjlaa
open Go.RowKit Fl
set_option maxRecDepth 100000

/-- getLayout's own variables: the reader's, the result, the layout. -/
structure Own3 (W : World) (n0 b1 b2 g : Nat) (C R : Array Value) : Prop where
  box : Row W n0 72 #[.pointer (some ⟨g, 0, none⟩)]
  res : Row W b1 33 R
  lay : Row W b2 33 C
  n1 : n0 ≠ b1 ∧ n0 ≠ b2 ∧ b1 ≠ b2 ∧ n0 ≠ g ∧ b1 ≠ g ∧ b2 ≠ g

theorem Own3.kept {W W' : World} {n0 b1 b2 g : Nat} {C R : Array Value} (h : Own3 W n0 b1 b2 g C R) (hk : KeptL [g] W W') : Own3 W' n0 b1 b2 g C R :=
  ⟨hk.row h.box (by simp; exact h.n1.2.2.2.1), hk.row h.res (by simp; exact h.n1.2.2.2.2.1), hk.row h.lay (by simp; exact h.n1.2.2.2.2.2), h.n1⟩
theorem Own3.set {W : World} {n0 b1 b2 g : Nat} {C R : Array Value} (h : Own3 W n0 b1 b2 g C R) (i : Nat) (u : Value) : Own3 (W.setCell ⟨b2, i, none⟩ u) n0 b1 b2 g (C.setIfInBounds i u) R :=
  ⟨h.box.far (p := ⟨b2, i, none⟩) h.n1.2.1 u, h.res.far (p := ⟨b2, i, none⟩) h.n1.2.2.1 u, h.lay.set i u, h.n1⟩
theorem Own3.two {W W' : World} {n0 b1 b2 g : Nat} {C C' R : Array Value} (h : Own3 W n0 b1 b2 g C R) (hk : KeptL [g, b2] W W') (hl : Row W' b2 33 C') : Own3 W' n0 b1 b2 g C' R :=
  ⟨hk.row h.box (by simp; exact ⟨h.n1.2.2.2.1, h.n1.2.1⟩), hk.row h.res (by simp; exact ⟨h.n1.2.2.2.2.1, h.n1.2.2.1⟩), hl, h.n1⟩
theorem Own3.alloc {W : World} {n0 b1 b2 g : Nat} {C R : Array Value} (h : Own3 W n0 b1 b2 g C R) (o : Obj) : Own3 (W.alloc o) n0 b1 b2 g C R := ⟨h.box.alloc o, h.res.alloc o, h.lay.alloc o, h.n1⟩

theorem in1 {g b : Nat} : ∀ k ∈ [g], k ∈ [g, b] := by intro k hk; simp at *; omega
theorem in1' {g b : Nat} : ∀ k ∈ [b], k ∈ [g, b] := by intro k hk; simp at *; omega

theorem zip5 (s : St) : [5].zip (tmany (tnum 16) [5].length s).1 = [(5, ((tget 16 s).1 : Int))] := rfl
theorem zip6 (s : St) : [6, 7, 8, 9].zip (tmany (tnum 16) [6, 7, 8, 9].length s).1 = [(6, ((tget 16 s).1 : Int)), (7, ((tget 16 (tget 16 s).2).1 : Int)), (8, ((tget 16 (tget 16 (tget 16 s).2).2).1 : Int)), (9, ((tget 16 (tget 16 (tget 16 (tget 16 s).2).2).2).1 : Int))] := rfl
theorem many6 (s : St) : (tmany (tnum 16) [6, 7, 8, 9].length s).2 = (tget 16 (tget 16 (tget 16 (tget 16 s).2).2).2).2 := rfl
theorem upd5 (a b c d e f g h i j : Value) (x : Int) : upd #[a, b, c, d, e, f, g, h, i, j] [(5, x)] = #[a, b, c, d, e, .int .i64 x, g, h, i, j] := rfl
theorem upd6 (a b c d e f g h i j : Value) (x y z t : Int) : upd #[a, b, c, d, e, f, g, h, i, j] [(6, x), (7, y), (8, z), (9, t)] = #[a, b, c, d, e, f, .int .i64 x, .int .i64 y, .int .i64 z, .int .i64 t] := rfl
theorem tlay_eq (s s1 s2 s3 s4 s5 : St) (e1 : (tlist tnode s).2 = s1) (e2 : (tlist tsec s1).2 = s2) (e3 : (trows s2).2 = s3) (e4 : (tlist tpoint s3).2 = s4) (e5 : (trows s4).2 = s5) :
    tlay s = (⟨(tlist tnode s).1, (tlist tsec s1).1, (trows s2).1, (tlist tpoint s3).1, (trows s4).1, ((tget 16 s5).1 : Int), ((tget 16 (tget 16 s5).2).1 : Int), ((tget 16 (tget 16 (tget 16 s5).2).2).1 : Int), ((tget 16 (tget 16 (tget 16 (tget 16 s5).2).2).2).1 : Int), ((tget 16 (tget 16 (tget 16 (tget 16 (tget 16 s5).2).2).2).2).1 : Int)⟩, (tget 16 (tget 16 (tget 16 (tget 16 (tget 16 s5).2).2).2).2).2) := by
  simp only [tlay, tbind, tret, e1, e2, e3, e4, e5]


theorem own3_of (w : World) (g : Nat) (hg : g < w.heap.size) : Own3 (((w.alloc (.cells #[.pointer (some ⟨g, 0, none⟩)] 72)).alloc (.cells #[.slice none 0 0, .slice none 0 0, .slice none 0 0, .slice none 0 0, .slice none 0 0, .int .i64 0, .int .i64 0, .int .i64 0, .int .i64 0, .int .i64 0] 33)).alloc (.cells #[.slice none 0 0, .slice none 0 0, .slice none 0 0, .slice none 0 0, .slice none 0 0, .int .i64 0, .int .i64 0, .int .i64 0, .int .i64 0, .int .i64 0] 33)) w.heap.size (w.heap.size + 1) (w.heap.size + 1 + 1) g #[.slice none 0 0, .slice none 0 0, .slice none 0 0, .slice none 0 0, .slice none 0 0, .int .i64 0, .int .i64 0, .int .i64 0, .int .i64 0, .int .i64 0] #[.slice none 0 0, .slice none 0 0, .slice none 0 0, .slice none 0 0, .slice none 0 0, .int .i64 0, .int .i64 0, .int .i64 0, .int .i64 0, .int .i64 0] := by
  have r1 := Row.new w 72 #[.pointer (some ⟨g, 0, none⟩)]
  have r2 := Row.new (w.alloc (.cells #[.pointer (some ⟨g, 0, none⟩)] 72)) 33 #[.slice none 0 0, .slice none 0 0, .slice none 0 0, .slice none 0 0, .slice none 0 0, .int .i64 0, .int .i64 0, .int .i64 0, .int .i64 0, .int .i64 0]
  have r3 := Row.new ((w.alloc (.cells #[.pointer (some ⟨g, 0, none⟩)] 72)).alloc (.cells #[.slice none 0 0, .slice none 0 0, .slice none 0 0, .slice none 0 0, .slice none 0 0, .int .i64 0, .int .i64 0, .int .i64 0, .int .i64 0, .int .i64 0] 33)) 33 #[.slice none 0 0, .slice none 0 0, .slice none 0 0, .slice none 0 0, .slice none 0 0, .int .i64 0, .int .i64 0, .int .i64 0, .int .i64 0, .int .i64 0]
  simp only [World.size_alloc] at r1 r2 r3
  exact ⟨(r1.alloc _).alloc _, r2.alloc _, r3, by omega⟩

set_option maxHeartbeats 8000000 in
theorem getLayout_any (w : World) (B g : Nat) (s : St) (h : RS w B g s) : Calls Try.prog 36 #[.pointer (some ⟨g, 0, none⟩)] w (Got B g (tlay s) IsLay w) := by
  obtain ⟨cg, hg⟩ := h.row
  have hgl := hg.lt
  have hb : Below w.heap.size w (((w.alloc (.cells #[.pointer (some ⟨g, 0, none⟩)] 72)).alloc (.cells #[.slice none 0 0, .slice none 0 0, .slice none 0 0, .slice none 0 0, .slice none 0 0, .int .i64 0, .int .i64 0, .int .i64 0, .int .i64 0, .int .i64 0] 33)).alloc (.cells #[.slice none 0 0, .slice none 0 0, .slice none 0 0, .slice none 0 0, .slice none 0 0, .int .i64 0, .int .i64 0, .int .i64 0, .int .i64 0, .int .i64 0] 33)) :=
    (((Below.refl _ _).alloc (Nat.le_refl _) _).alloc (by simp) _).alloc (by simp [World.size_alloc]; omega) _
  have HR0 := Lib.hid (h.fresh hb)
  have HO0 := Lib.hid (own3_of w g hgl)
  have HK : Hid (KeptL [g, w.heap.size + 1 + 1] w (((w.alloc (.cells #[.pointer (some ⟨g, 0, none⟩)] 72)).alloc (.cells #[.slice none 0 0, .slice none 0 0, .slice none 0 0, .slice none 0 0, .slice none 0 0, .int .i64 0, .int .i64 0, .int .i64 0, .int .i64 0, .int .i64 0] 33)).alloc (.cells #[.slice none 0 0, .slice none 0 0, .slice none 0 0, .slice none 0 0, .slice none 0 0, .int .i64 0, .int .i64 0, .int .i64 0, .int .i64 0, .int .i64 0] 33))) := KeptL.of_below hb
  have HSZ : Hid (w.heap.size ≤ w.heap.size + 1 + 1 ∧ w.heap.size ≤ w.heap.size + 1) := by refine ⟨?_, ?_⟩ <;> omega
  clear h hg hb
  go_enter Try.func36, Try.ntmps36
  go_upto_region 2 with (fail)
  generalize (((w.alloc (.cells #[.pointer (some ⟨g, 0, none⟩)] 72)).alloc (.cells #[.slice none 0 0, .slice none 0 0, .slice none 0 0, .slice none 0 0, .slice none 0 0, .int .i64 0, .int .i64 0, .int .i64 0, .int .i64 0, .int .i64 0] 33)).alloc (.cells #[.slice none 0 0, .slice none 0 0, .slice none 0 0, .slice none 0 0, .slice none 0 0, .int .i64 0, .int .i64 0, .int .i64 0, .int .i64 0, .int .i64 0] 33)) = u0 at *
  generalize hb1 : w.heap.size + 1 = b1 at *
  generalize hb2 : b1 + 1 = b2 at *
  clear hb1 hb2 hgl
  have HZ : Hid (w.heap.size ≤ w.heap.size) := Nat.le_refl _
  obtain ⟨n0, hn0⟩ : ∃ n, n = w.heap.size := ⟨_, rfl⟩
  rw [← hn0] at HO0 ⊢
  have HN0 := Lib.hid hn0; clear hn0
  have fb := HO0.out.box.cell 0
  simp only [List.getElem?_toArray, List.getElem?_cons_zero] at fb
  go_wp2_with fail
  refine (getList_nodes u0 B g n0 s HR0.out HO0.out.box).mono ?_
  rintro e w1 ⟨v0, rfl, hv, hr, hk⟩
  have ho := HO0.out.kept hk
  obtain ⟨A0, c0, hsl⟩ := hv.slice
  subst hsl
  obtain ⟨k0, hk0⟩ : ∃ k, k = (tlist tnode s).1.length := ⟨_, rfl⟩
  rw [← hk0] at hv ⊢
  clear hk0
  have fc := ho.lay.cell 0; have ff := ho.lay.frozen 0
  simp only [List.getElem?_toArray, List.getElem?_cons_zero] at fc
  have hset : KeptL [g, b2] w1 (w1.setCell ⟨b2, 0, none⟩ (.slice A0 k0 c0)) := (KeptL.refl _ _).set (by simp) _
  have HO1 : Hid (Own3 (w1.setCell ⟨b2, 0, none⟩ (.slice A0 k0 c0)) n0 b1 b2 g #[.slice A0 k0 c0, .slice none 0 0, .slice none 0 0, .slice none 0 0, .slice none 0 0, .int .i64 0, .int .i64 0, .int .i64 0, .int .i64 0, .int .i64 0] #[.slice none 0 0, .slice none 0 0, .slice none 0 0, .slice none 0 0, .slice none 0 0, .int .i64 0, .int .i64 0, .int .i64 0, .int .i64 0, .int .i64 0]) := ho.set 0 (.slice A0 k0 c0)
  have HR1 := Lib.hid (hr.set (i := 0) ho.lay (by decide) (by decide) (.slice A0 k0 c0))
  have hkk : KeptL [g, b2] u0 (w1.setCell ⟨b2, 0, none⟩ (.slice A0 k0 c0)) := (hk.mono in1).trans hset
  obtain ⟨cgk, hgk⟩ := HR0.out.row
  obtain ⟨cgj, hgj⟩ := hr.row
  have HF0 := Lib.hid (hv.kept hset (other_of hgj ho.lay _ (by simp)))
  have HKn := Lib.hid (HK.out.trans hkk)
  clear HK
  have HK := HKn
  clear HKn
  clear hv hr hk ho hset hkk hgk hgj fb
  obtain ⟨x1, hx1⟩ : ∃ x, x = w1.setCell ⟨b2, 0, none⟩ (.slice A0 k0 c0) := ⟨_, rfl⟩
  obtain ⟨s1, hs1⟩ : ∃ x, (tlist tnode s).2 = x := ⟨_, rfl⟩
  rw [hs1] at HR1
  have HS1 := Lib.hid hs1; clear hs1
  go_upto_region 3 with (fail)
  rw [← hx1] at HO1 HR1 HK HF0 ⊢
  clear hx1 fc ff
  obtain ⟨u1, hu⟩ : ∃ x, x = x1 := ⟨_, rfl⟩
  subst hu
  have fb := HO1.out.box.cell 0
  simp only [List.getElem?_toArray, List.getElem?_cons_zero] at fb
  go_wp2_with fail
  refine (getList_secs u1 B g n0 s1 HR1.out HO1.out.box).mono ?_
  rintro e w2 ⟨v1, rfl, hv, hr, hk⟩
  have ho := HO1.out.kept hk
  obtain ⟨A1, c1, hsl⟩ := hv.slice
  subst hsl
  obtain ⟨k1, hk1⟩ : ∃ k, k = (tlist tsec s1).1.length := ⟨_, rfl⟩
  rw [← hk1] at hv ⊢
  clear hk1
  have fc := ho.lay.cell 1; have ff := ho.lay.frozen 1
  simp only [List.getElem?_toArray, List.getElem?_cons_zero, List.getElem?_cons_succ] at fc
  have hset : KeptL [g, b2] w2 (w2.setCell ⟨b2, 1, none⟩ (.slice A1 k1 c1)) := (KeptL.refl _ _).set (by simp) _
  have HO2 : Hid (Own3 (w2.setCell ⟨b2, 1, none⟩ (.slice A1 k1 c1)) n0 b1 b2 g #[.slice A0 k0 c0, .slice A1 k1 c1, .slice none 0 0, .slice none 0 0, .slice none 0 0, .int .i64 0, .int .i64 0, .int .i64 0, .int .i64 0, .int .i64 0] #[.slice none 0 0, .slice none 0 0, .slice none 0 0, .slice none 0 0, .slice none 0 0, .int .i64 0, .int .i64 0, .int .i64 0, .int .i64 0, .int .i64 0]) := ho.set 1 (.slice A1 k1 c1)
  have HR2 := Lib.hid (hr.set (i := 1) ho.lay (by decide) (by decide) (.slice A1 k1 c1))
  have hkk : KeptL [g, b2] u1 (w2.setCell ⟨b2, 1, none⟩ (.slice A1 k1 c1)) := (hk.mono in1).trans hset
  obtain ⟨cgk, hgk⟩ := HR1.out.row
  obtain ⟨cgj, hgj⟩ := hr.row
  have HF0n := Lib.hid (HF0.out.kept hkk (other_of hgk HO1.out.lay _ (by simp)))
  have HF1 := Lib.hid (hv.kept hset (other_of hgj ho.lay _ (by simp)))
  clear HF0
  have HF0 := HF0n
  clear HF0n
  have HKn := Lib.hid (HK.out.trans hkk)
  clear HK
  have HK := HKn
  clear HKn
  clear hv hr hk ho hset hkk hgk hgj fb
  obtain ⟨x2, hx2⟩ : ∃ x, x = w2.setCell ⟨b2, 1, none⟩ (.slice A1 k1 c1) := ⟨_, rfl⟩
  obtain ⟨s2, hs2⟩ : ∃ x, (tlist tsec s1).2 = x := ⟨_, rfl⟩
  rw [hs2] at HR2
  have HS2 := Lib.hid hs2; clear hs2
  go_upto_region 4 with (fail)
  rw [← hx2] at HO2 HR2 HK HF0 HF1 ⊢
  clear hx2 fc ff
  obtain ⟨u2, hu⟩ : ∃ x, x = x2 := ⟨_, rfl⟩
  subst hu
  have fb := HO2.out.box.cell 0
  simp only [List.getElem?_toArray, List.getElem?_cons_zero] at fb
  go_wp2_with fail
  refine (getRows_any u2 B g s2 HR2.out).mono ?_
  rintro e w3 ⟨v2, rfl, hv, hr, hk⟩
  have ho := HO2.out.kept hk
  obtain ⟨A2, c2, hsl⟩ := hv.slice
  subst hsl
  obtain ⟨k2, hk2⟩ : ∃ k, k = (trows s2).1.length := ⟨_, rfl⟩
  rw [← hk2] at hv ⊢
  clear hk2
  have fc := ho.lay.cell 2; have ff := ho.lay.frozen 2
  simp only [List.getElem?_toArray, List.getElem?_cons_zero, List.getElem?_cons_succ] at fc
  have hset : KeptL [g, b2] w3 (w3.setCell ⟨b2, 2, none⟩ (.slice A2 k2 c2)) := (KeptL.refl _ _).set (by simp) _
  have HO3 : Hid (Own3 (w3.setCell ⟨b2, 2, none⟩ (.slice A2 k2 c2)) n0 b1 b2 g #[.slice A0 k0 c0, .slice A1 k1 c1, .slice A2 k2 c2, .slice none 0 0, .slice none 0 0, .int .i64 0, .int .i64 0, .int .i64 0, .int .i64 0, .int .i64 0] #[.slice none 0 0, .slice none 0 0, .slice none 0 0, .slice none 0 0, .slice none 0 0, .int .i64 0, .int .i64 0, .int .i64 0, .int .i64 0, .int .i64 0]) := ho.set 2 (.slice A2 k2 c2)
  have HR3 := Lib.hid (hr.set (i := 2) ho.lay (by decide) (by decide) (.slice A2 k2 c2))
  have hkk : KeptL [g, b2] u2 (w3.setCell ⟨b2, 2, none⟩ (.slice A2 k2 c2)) := (hk.mono in1).trans hset
  obtain ⟨cgk, hgk⟩ := HR2.out.row
  obtain ⟨cgj, hgj⟩ := hr.row
  have HF0n := Lib.hid (HF0.out.kept hkk (other_of hgk HO2.out.lay _ (by simp)))
  have HF1n := Lib.hid (HF1.out.kept hkk (other_of hgk HO2.out.lay _ (by simp)))
  have HF2 := Lib.hid (hv.kept hset (other_of hgj ho.lay _ (by simp)) (other_of hgj ho.lay _ (by simp)))
  clear HF0
  have HF0 := HF0n
  clear HF0n
  clear HF1
  have HF1 := HF1n
  clear HF1n
  have HKn := Lib.hid (HK.out.trans hkk)
  clear HK
  have HK := HKn
  clear HKn
  clear hv hr hk ho hset hkk hgk hgj fb
  obtain ⟨x3, hx3⟩ : ∃ x, x = w3.setCell ⟨b2, 2, none⟩ (.slice A2 k2 c2) := ⟨_, rfl⟩
  obtain ⟨s3, hs3⟩ : ∃ x, (trows s2).2 = x := ⟨_, rfl⟩
  rw [hs3] at HR3
  have HS3 := Lib.hid hs3; clear hs3
  go_upto_region 5 with (fail)
  rw [← hx3] at HO3 HR3 HK HF0 HF1 HF2 ⊢
  clear hx3 fc ff
  obtain ⟨u3, hu⟩ : ∃ x, x = x3 := ⟨_, rfl⟩
  subst hu
  have fb := HO3.out.box.cell 0
  simp only [List.getElem?_toArray, List.getElem?_cons_zero] at fb
  go_wp2_with fail
  refine (getList_points u3 B g n0 s3 HR3.out HO3.out.box).mono ?_
  rintro e w4 ⟨v3, rfl, hv, hr, hk⟩
  have ho := HO3.out.kept hk
  obtain ⟨A3, c3, hsl⟩ := hv.slice
  subst hsl
  obtain ⟨k3, hk3⟩ : ∃ k, k = (tlist tpoint s3).1.length := ⟨_, rfl⟩
  rw [← hk3] at hv ⊢
  clear hk3
  have fc := ho.lay.cell 3; have ff := ho.lay.frozen 3
  simp only [List.getElem?_toArray, List.getElem?_cons_zero, List.getElem?_cons_succ] at fc
  have hset : KeptL [g, b2] w4 (w4.setCell ⟨b2, 3, none⟩ (.slice A3 k3 c3)) := (KeptL.refl _ _).set (by simp) _
  have HO4 : Hid (Own3 (w4.setCell ⟨b2, 3, none⟩ (.slice A3 k3 c3)) n0 b1 b2 g #[.slice A0 k0 c0, .slice A1 k1 c1, .slice A2 k2 c2, .slice A3 k3 c3, .slice none 0 0, .int .i64 0, .int .i64 0, .int .i64 0, .int .i64 0, .int .i64 0] #[.slice none 0 0, .slice none 0 0, .slice none 0 0, .slice none 0 0, .slice none 0 0, .int .i64 0, .int .i64 0, .int .i64 0, .int .i64 0, .int .i64 0]) := ho.set 3 (.slice A3 k3 c3)
  have HR4 := Lib.hid (hr.set (i := 3) ho.lay (by decide) (by decide) (.slice A3 k3 c3))
  have hkk : KeptL [g, b2] u3 (w4.setCell ⟨b2, 3, none⟩ (.slice A3 k3 c3)) := (hk.mono in1).trans hset
  obtain ⟨cgk, hgk⟩ := HR3.out.row
  obtain ⟨cgj, hgj⟩ := hr.row
  have HF0n := Lib.hid (HF0.out.kept hkk (other_of hgk HO3.out.lay _ (by simp)))
  have HF1n := Lib.hid (HF1.out.kept hkk (other_of hgk HO3.out.lay _ (by simp)))
  have HF2n := Lib.hid (HF2.out.kept hkk (other_of hgk HO3.out.lay _ (by simp)) (other_of hgk HO3.out.lay _ (by simp)))
  have HF3 := Lib.hid (hv.kept hset (other_of hgj ho.lay _ (by simp)))
  clear HF0
  have HF0 := HF0n
  clear HF0n
  clear HF1
  have HF1 := HF1n
  clear HF1n
  clear HF2
  have HF2 := HF2n
  clear HF2n
  have HKn := Lib.hid (HK.out.trans hkk)
  clear HK
  have HK := HKn
  clear HKn
  clear hv hr hk ho hset hkk hgk hgj fb
  obtain ⟨x4, hx4⟩ : ∃ x, x = w4.setCell ⟨b2, 3, none⟩ (.slice A3 k3 c3) := ⟨_, rfl⟩
  obtain ⟨s4, hs4⟩ : ∃ x, (tlist tpoint s3).2 = x := ⟨_, rfl⟩
  rw [hs4] at HR4
  have HS4 := Lib.hid hs4; clear hs4
  go_upto_region 6 with (fail)
  rw [← hx4] at HO4 HR4 HK HF0 HF1 HF2 HF3 ⊢
  clear hx4 fc ff
  obtain ⟨u4, hu⟩ : ∃ x, x = x4 := ⟨_, rfl⟩
  subst hu
  have fb := HO4.out.box.cell 0
  simp only [List.getElem?_toArray, List.getElem?_cons_zero] at fb
  go_wp2_with fail
  refine (getRows_any u4 B g s4 HR4.out).mono ?_
  rintro e w5 ⟨v4, rfl, hv, hr, hk⟩
  have ho := HO4.out.kept hk
  obtain ⟨A4, c4, hsl⟩ := hv.slice
  subst hsl
  obtain ⟨k4, hk4⟩ : ∃ k, k = (trows s4).1.length := ⟨_, rfl⟩
  rw [← hk4] at hv ⊢
  clear hk4
  have fc := ho.lay.cell 4; have ff := ho.lay.frozen 4
  simp only [List.getElem?_toArray, List.getElem?_cons_zero, List.getElem?_cons_succ] at fc
  have hset : KeptL [g, b2] w5 (w5.setCell ⟨b2, 4, none⟩ (.slice A4 k4 c4)) := (KeptL.refl _ _).set (by simp) _
  have HO5 : Hid (Own3 (w5.setCell ⟨b2, 4, none⟩ (.slice A4 k4 c4)) n0 b1 b2 g #[.slice A0 k0 c0, .slice A1 k1 c1, .slice A2 k2 c2, .slice A3 k3 c3, .slice A4 k4 c4, .int .i64 0, .int .i64 0, .int .i64 0, .int .i64 0, .int .i64 0] #[.slice none 0 0, .slice none 0 0, .slice none 0 0, .slice none 0 0, .slice none 0 0, .int .i64 0, .int .i64 0, .int .i64 0, .int .i64 0, .int .i64 0]) := ho.set 4 (.slice A4 k4 c4)
  have HR5 := Lib.hid (hr.set (i := 4) ho.lay (by decide) (by decide) (.slice A4 k4 c4))
  have hkk : KeptL [g, b2] u4 (w5.setCell ⟨b2, 4, none⟩ (.slice A4 k4 c4)) := (hk.mono in1).trans hset
  obtain ⟨cgk, hgk⟩ := HR4.out.row
  obtain ⟨cgj, hgj⟩ := hr.row
  have HF0n := Lib.hid (HF0.out.kept hkk (other_of hgk HO4.out.lay _ (by simp)))
  have HF1n := Lib.hid (HF1.out.kept hkk (other_of hgk HO4.out.lay _ (by simp)))
  have HF2n := Lib.hid (HF2.out.kept hkk (other_of hgk HO4.out.lay _ (by simp)) (other_of hgk HO4.out.lay _ (by simp)))
  have HF3n := Lib.hid (HF3.out.kept hkk (other_of hgk HO4.out.lay _ (by simp)))
  have HF4 := Lib.hid (hv.kept hset (other_of hgj ho.lay _ (by simp)) (other_of hgj ho.lay _ (by simp)))
  clear HF0
  have HF0 := HF0n
  clear HF0n
  clear HF1
  have HF1 := HF1n
  clear HF1n
  clear HF2
  have HF2 := HF2n
  clear HF2n
  clear HF3
  have HF3 := HF3n
  clear HF3n
  have HKn := Lib.hid (HK.out.trans hkk)
  clear HK
  have HK := HKn
  clear HKn
  clear hv hr hk ho hset hkk hgk hgj fb
  obtain ⟨x5, hx5⟩ : ∃ x, x = w5.setCell ⟨b2, 4, none⟩ (.slice A4 k4 c4) := ⟨_, rfl⟩
  obtain ⟨s5, hs5⟩ : ∃ x, (trows s4).2 = x := ⟨_, rfl⟩
  rw [hs5] at HR5
  have HS5 := Lib.hid hs5; clear hs5
  go_upto_region 7 with (fail)
  rw [← hx5] at HO5 HR5 HK HF0 HF1 HF2 HF3 HF4 ⊢
  clear hx5 fc ff
  obtain ⟨u5, hu⟩ : ∃ x, x = x5 := ⟨_, rfl⟩
  subst hu
  have fb := HO5.out.box.cell 0
  simp only [List.getElem?_toArray, List.getElem?_cons_zero] at fb
  have hb := (Below.refl u5.heap.size u5).alloc (Nat.le_refl _) (.cells (ptrs b2 [5]).toArray 106)
  have HRA := Lib.hid (HR5.out.fresh hb)
  have HVA := Lib.hid (Tl.lit u5 106 (ptrs b2 [5]) 1 rfl)
  have HOA := Lib.hid (HO5.out.alloc (.cells (ptrs b2 [5]).toArray 106))
  have HBA := Lib.hid hb
  clear hb
  go_wp2_with fail
  refine (getInts _ B g b2 s5 16 16 33 _ [5] _ HRA.out HVA.out HOA.out.lay (by decide) (by intro o ho; simp at ho ⊢; omega) rfl (by omega) (by omega) (by simp)).mono ?_
  rintro e u6 ⟨rfl, h1, h2, h3⟩
  rw [zip5, upd5] at h2
  have h1 : RS u6 B g (tget 16 s5).2 := h1
  obtain ⟨t0, ht0⟩ : ∃ t, ((tget 16 s5).1 : Int) = t := ⟨_, rfl⟩
  obtain ⟨s6, hs6⟩ : ∃ t, (tget 16 s5).2 = t := ⟨_, rfl⟩
  rw [ht0] at h2
  rw [hs6] at h1
  have HT0 := Lib.hid ht0; have HS6 := Lib.hid hs6
  clear ht0 hs6
  have hkk : KeptL [g, b2] u5 u6 := (KeptL.of_below HBA.out).trans h3
  obtain ⟨cgk, hgk⟩ := HR5.out.row
  have HF0n := Lib.hid (HF0.out.kept hkk (other_of hgk HO5.out.lay _ (by simp)))
  have HF1n := Lib.hid (HF1.out.kept hkk (other_of hgk HO5.out.lay _ (by simp)))
  have HF2n := Lib.hid (HF2.out.kept hkk (other_of hgk HO5.out.lay _ (by simp)) (other_of hgk HO5.out.lay _ (by simp)))
  have HF3n := Lib.hid (HF3.out.kept hkk (other_of hgk HO5.out.lay _ (by simp)))
  have HF4n := Lib.hid (HF4.out.kept hkk (other_of hgk HO5.out.lay _ (by simp)) (other_of hgk HO5.out.lay _ (by simp)))
  clear HF0
  have HF0 := HF0n
  clear HF0n
  clear HF1
  have HF1 := HF1n
  clear HF1n
  clear HF2
  have HF2 := HF2n
  clear HF2n
  clear HF3
  have HF3 := HF3n
  clear HF3n
  clear HF4
  have HF4 := HF4n
  clear HF4n
  have HO6 : Hid (Own3 u6 n0 b1 b2 g #[.slice A0 k0 c0, .slice A1 k1 c1, .slice A2 k2 c2, .slice A3 k3 c3, .slice A4 k4 c4, .int .i64 t0, .int .i64 0, .int .i64 0, .int .i64 0, .int .i64 0] #[.slice none 0 0, .slice none 0 0, .slice none 0 0, .slice none 0 0, .slice none 0 0, .int .i64 0, .int .i64 0, .int .i64 0, .int .i64 0, .int .i64 0]) := HO5.out.two hkk h2
  have HR6 := Lib.hid h1
  have HKn := Lib.hid (HK.out.trans hkk)
  clear HK
  have HK := HKn
  clear HKn h1 h2 h3 hkk hgk fb HRA HVA HOA HBA
  have fb := HO6.out.box.cell 0
  simp only [List.getElem?_toArray, List.getElem?_cons_zero] at fb
  have hb := (Below.refl u6.heap.size u6).alloc (Nat.le_refl _) (.cells (ptrs b2 [6, 7, 8, 9]).toArray 112)
  have HRA := Lib.hid (HR6.out.fresh hb)
  have HVA := Lib.hid (Tl.lit u6 112 (ptrs b2 [6, 7, 8, 9]) 4 rfl)
  have HOA := Lib.hid (HO6.out.alloc (.cells (ptrs b2 [6, 7, 8, 9]).toArray 112))
  have HBA := Lib.hid hb
  clear hb
  go_wp2_with fail
  refine (getLongs _ B g b2 s6 16 16 33 _ [6, 7, 8, 9] _ HRA.out HVA.out HOA.out.lay (by decide) (by intro o ho; simp at ho ⊢; omega) rfl (by omega) (by omega) (by simp)).mono ?_
  rintro e u7 ⟨rfl, h1, h2, h3⟩
  rw [zip6, upd6] at h2
  rw [many6] at h1
  obtain ⟨t1, ht1⟩ : ∃ t, ((tget 16 s6).1 : Int) = t := ⟨_, rfl⟩
  obtain ⟨t2, ht2⟩ : ∃ t, ((tget 16 (tget 16 s6).2).1 : Int) = t := ⟨_, rfl⟩
  obtain ⟨t3, ht3⟩ : ∃ t, ((tget 16 (tget 16 (tget 16 s6).2).2).1 : Int) = t := ⟨_, rfl⟩
  obtain ⟨t4, ht4⟩ : ∃ t, ((tget 16 (tget 16 (tget 16 (tget 16 s6).2).2).2).1 : Int) = t := ⟨_, rfl⟩
  obtain ⟨s7, hs7⟩ : ∃ t, (tget 16 (tget 16 (tget 16 (tget 16 s6).2).2).2).2 = t := ⟨_, rfl⟩
  rw [ht1, ht2, ht3, ht4] at h2
  rw [hs7] at h1
  have HT1 := Lib.hid ht1
  have HT2 := Lib.hid ht2
  have HT3 := Lib.hid ht3
  have HT4 := Lib.hid ht4
  have HS7 := Lib.hid hs7
  clear ht1 ht2 ht3 ht4 hs7
  have hkk : KeptL [g, b2] u6 u7 := (KeptL.of_below HBA.out).trans h3
  obtain ⟨cgk, hgk⟩ := HR6.out.row
  have HF0n := Lib.hid (HF0.out.kept hkk (other_of hgk HO6.out.lay _ (by simp)))
  have HF1n := Lib.hid (HF1.out.kept hkk (other_of hgk HO6.out.lay _ (by simp)))
  have HF2n := Lib.hid (HF2.out.kept hkk (other_of hgk HO6.out.lay _ (by simp)) (other_of hgk HO6.out.lay _ (by simp)))
  have HF3n := Lib.hid (HF3.out.kept hkk (other_of hgk HO6.out.lay _ (by simp)))
  have HF4n := Lib.hid (HF4.out.kept hkk (other_of hgk HO6.out.lay _ (by simp)) (other_of hgk HO6.out.lay _ (by simp)))
  clear HF0
  have HF0 := HF0n
  clear HF0n
  clear HF1
  have HF1 := HF1n
  clear HF1n
  clear HF2
  have HF2 := HF2n
  clear HF2n
  clear HF3
  have HF3 := HF3n
  clear HF3n
  clear HF4
  have HF4 := HF4n
  clear HF4n
  have HO7 : Hid (Own3 u7 n0 b1 b2 g #[.slice A0 k0 c0, .slice A1 k1 c1, .slice A2 k2 c2, .slice A3 k3 c3, .slice A4 k4 c4, .int .i64 t0, .int .i64 t1, .int .i64 t2, .int .i64 t3, .int .i64 t4] #[.slice none 0 0, .slice none 0 0, .slice none 0 0, .slice none 0 0, .slice none 0 0, .int .i64 0, .int .i64 0, .int .i64 0, .int .i64 0, .int .i64 0]) := HO6.out.two hkk h2
  have HR7 := Lib.hid h1
  have HKn := Lib.hid (HK.out.trans hkk)
  clear HK
  have HK := HKn
  clear HKn h1 h2 h3 hkk hgk fb HRA HVA HOA HBA
  have HTL : Hid (tlay s = (⟨(tlist tnode s).1, (tlist tsec s1).1, (trows s2).1, (tlist tpoint s3).1, (trows s4).1, t0, t1, t2, t3, t4⟩, s7)) := by
    show _ = _
    rw [tlay_eq s s1 s2 s3 s4 s5 HS1.out HS2.out HS3.out HS4.out HS5.out, HS6.out, HT0.out, HT1.out, HT2.out, HT3.out, HT4.out, HS7.out]
  have p0 := HO7.out.lay.cell 0; have q0 := HO7.out.res.cell 0; have r0 := HO7.out.res.frozen 0
  have p1 := HO7.out.lay.cell 1; have q1 := HO7.out.res.cell 1; have r1 := HO7.out.res.frozen 1
  have p2 := HO7.out.lay.cell 2; have q2 := HO7.out.res.cell 2; have r2 := HO7.out.res.frozen 2
  have p3 := HO7.out.lay.cell 3; have q3 := HO7.out.res.cell 3; have r3 := HO7.out.res.frozen 3
  have p4 := HO7.out.lay.cell 4; have q4 := HO7.out.res.cell 4; have r4 := HO7.out.res.frozen 4
  have p5 := HO7.out.lay.cell 5; have q5 := HO7.out.res.cell 5; have r5 := HO7.out.res.frozen 5
  have p6 := HO7.out.lay.cell 6; have q6 := HO7.out.res.cell 6; have r6 := HO7.out.res.frozen 6
  have p7 := HO7.out.lay.cell 7; have q7 := HO7.out.res.cell 7; have r7 := HO7.out.res.frozen 7
  have p8 := HO7.out.lay.cell 8; have q8 := HO7.out.res.cell 8; have r8 := HO7.out.res.frozen 8
  have p9 := HO7.out.lay.cell 9; have q9 := HO7.out.res.cell 9; have r9 := HO7.out.res.frozen 9
  simp only [List.getElem?_toArray, List.getElem?_cons_zero, List.getElem?_cons_succ] at p0 q0 p1 q1 p2 q2 p3 q3 p4 q4 p5 q5 p6 q6 p7 q7 p8 q8 p9 q9
  go_wp2_with fail
  have rr0 : Row (u7.setCell ⟨b1, 0, none⟩ (.slice A0 k0 c0)) b1 33 #[.slice A0 k0 c0, .slice none 0 0, .slice none 0 0, .slice none 0 0, .slice none 0 0, .int .i64 0, .int .i64 0, .int .i64 0, .int .i64 0, .int .i64 0] := HO7.out.res.set 0 (.slice A0 k0 c0)
  have kk0 : KeptL [b1] u7 (u7.setCell ⟨b1, 0, none⟩ (.slice A0 k0 c0)) := (KeptL.refl [b1] u7).set (p := ⟨b1, 0, none⟩) (by simp) (.slice A0 k0 c0)
  have rr1 : Row ((u7.setCell ⟨b1, 0, none⟩ (.slice A0 k0 c0)).setCell ⟨b1, 1, none⟩ (.slice A1 k1 c1)) b1 33 #[.slice A0 k0 c0, .slice A1 k1 c1, .slice none 0 0, .slice none 0 0, .slice none 0 0, .int .i64 0, .int .i64 0, .int .i64 0, .int .i64 0, .int .i64 0] := rr0.set 1 (.slice A1 k1 c1)
  have kk1 : KeptL [b1] u7 ((u7.setCell ⟨b1, 0, none⟩ (.slice A0 k0 c0)).setCell ⟨b1, 1, none⟩ (.slice A1 k1 c1)) := kk0.set (p := ⟨b1, 1, none⟩) (by simp) (.slice A1 k1 c1)
  have rr2 : Row (((u7.setCell ⟨b1, 0, none⟩ (.slice A0 k0 c0)).setCell ⟨b1, 1, none⟩ (.slice A1 k1 c1)).setCell ⟨b1, 2, none⟩ (.slice A2 k2 c2)) b1 33 #[.slice A0 k0 c0, .slice A1 k1 c1, .slice A2 k2 c2, .slice none 0 0, .slice none 0 0, .int .i64 0, .int .i64 0, .int .i64 0, .int .i64 0, .int .i64 0] := rr1.set 2 (.slice A2 k2 c2)
  have kk2 : KeptL [b1] u7 (((u7.setCell ⟨b1, 0, none⟩ (.slice A0 k0 c0)).setCell ⟨b1, 1, none⟩ (.slice A1 k1 c1)).setCell ⟨b1, 2, none⟩ (.slice A2 k2 c2)) := kk1.set (p := ⟨b1, 2, none⟩) (by simp) (.slice A2 k2 c2)
  have rr3 : Row ((((u7.setCell ⟨b1, 0, none⟩ (.slice A0 k0 c0)).setCell ⟨b1, 1, none⟩ (.slice A1 k1 c1)).setCell ⟨b1, 2, none⟩ (.slice A2 k2 c2)).setCell ⟨b1, 3, none⟩ (.slice A3 k3 c3)) b1 33 #[.slice A0 k0 c0, .slice A1 k1 c1, .slice A2 k2 c2, .slice A3 k3 c3, .slice none 0 0, .int .i64 0, .int .i64 0, .int .i64 0, .int .i64 0, .int .i64 0] := rr2.set 3 (.slice A3 k3 c3)
  have kk3 : KeptL [b1] u7 ((((u7.setCell ⟨b1, 0, none⟩ (.slice A0 k0 c0)).setCell ⟨b1, 1, none⟩ (.slice A1 k1 c1)).setCell ⟨b1, 2, none⟩ (.slice A2 k2 c2)).setCell ⟨b1, 3, none⟩ (.slice A3 k3 c3)) := kk2.set (p := ⟨b1, 3, none⟩) (by simp) (.slice A3 k3 c3)
  have rr4 : Row (((((u7.setCell ⟨b1, 0, none⟩ (.slice A0 k0 c0)).setCell ⟨b1, 1, none⟩ (.slice A1 k1 c1)).setCell ⟨b1, 2, none⟩ (.slice A2 k2 c2)).setCell ⟨b1, 3, none⟩ (.slice A3 k3 c3)).setCell ⟨b1, 4, none⟩ (.slice A4 k4 c4)) b1 33 #[.slice A0 k0 c0, .slice A1 k1 c1, .slice A2 k2 c2, .slice A3 k3 c3, .slice A4 k4 c4, .int .i64 0, .int .i64 0, .int .i64 0, .int .i64 0, .int .i64 0] := rr3.set 4 (.slice A4 k4 c4)
  have kk4 : KeptL [b1] u7 (((((u7.setCell ⟨b1, 0, none⟩ (.slice A0 k0 c0)).setCell ⟨b1, 1, none⟩ (.slice A1 k1 c1)).setCell ⟨b1, 2, none⟩ (.slice A2 k2 c2)).setCell ⟨b1, 3, none⟩ (.slice A3 k3 c3)).setCell ⟨b1, 4, none⟩ (.slice A4 k4 c4)) := kk3.set (p := ⟨b1, 4, none⟩) (by simp) (.slice A4 k4 c4)
  have rr5 : Row ((((((u7.setCell ⟨b1, 0, none⟩ (.slice A0 k0 c0)).setCell ⟨b1, 1, none⟩ (.slice A1 k1 c1)).setCell ⟨b1, 2, none⟩ (.slice A2 k2 c2)).setCell ⟨b1, 3, none⟩ (.slice A3 k3 c3)).setCell ⟨b1, 4, none⟩ (.slice A4 k4 c4)).setCell ⟨b1, 5, none⟩ (.int .i64 t0)) b1 33 #[.slice A0 k0 c0, .slice A1 k1 c1, .slice A2 k2 c2, .slice A3 k3 c3, .slice A4 k4 c4, .int .i64 t0, .int .i64 0, .int .i64 0, .int .i64 0, .int .i64 0] := rr4.set 5 (.int .i64 t0)
  have kk5 : KeptL [b1] u7 ((((((u7.setCell ⟨b1, 0, none⟩ (.slice A0 k0 c0)).setCell ⟨b1, 1, none⟩ (.slice A1 k1 c1)).setCell ⟨b1, 2, none⟩ (.slice A2 k2 c2)).setCell ⟨b1, 3, none⟩ (.slice A3 k3 c3)).setCell ⟨b1, 4, none⟩ (.slice A4 k4 c4)).setCell ⟨b1, 5, none⟩ (.int .i64 t0)) := kk4.set (p := ⟨b1, 5, none⟩) (by simp) (.int .i64 t0)
  have rr6 : Row (((((((u7.setCell ⟨b1, 0, none⟩ (.slice A0 k0 c0)).setCell ⟨b1, 1, none⟩ (.slice A1 k1 c1)).setCell ⟨b1, 2, none⟩ (.slice A2 k2 c2)).setCell ⟨b1, 3, none⟩ (.slice A3 k3 c3)).setCell ⟨b1, 4, none⟩ (.slice A4 k4 c4)).setCell ⟨b1, 5, none⟩ (.int .i64 t0)).setCell ⟨b1, 6, none⟩ (.int .i64 t1)) b1 33 #[.slice A0 k0 c0, .slice A1 k1 c1, .slice A2 k2 c2, .slice A3 k3 c3, .slice A4 k4 c4, .int .i64 t0, .int .i64 t1, .int .i64 0, .int .i64 0, .int .i64 0] := rr5.set 6 (.int .i64 t1)
  have kk6 : KeptL [b1] u7 (((((((u7.setCell ⟨b1, 0, none⟩ (.slice A0 k0 c0)).setCell ⟨b1, 1, none⟩ (.slice A1 k1 c1)).setCell ⟨b1, 2, none⟩ (.slice A2 k2 c2)).setCell ⟨b1, 3, none⟩ (.slice A3 k3 c3)).setCell ⟨b1, 4, none⟩ (.slice A4 k4 c4)).setCell ⟨b1, 5, none⟩ (.int .i64 t0)).setCell ⟨b1, 6, none⟩ (.int .i64 t1)) := kk5.set (p := ⟨b1, 6, none⟩) (by simp) (.int .i64 t1)
  have rr7 : Row ((((((((u7.setCell ⟨b1, 0, none⟩ (.slice A0 k0 c0)).setCell ⟨b1, 1, none⟩ (.slice A1 k1 c1)).setCell ⟨b1, 2, none⟩ (.slice A2 k2 c2)).setCell ⟨b1, 3, none⟩ (.slice A3 k3 c3)).setCell ⟨b1, 4, none⟩ (.slice A4 k4 c4)).setCell ⟨b1, 5, none⟩ (.int .i64 t0)).setCell ⟨b1, 6, none⟩ (.int .i64 t1)).setCell ⟨b1, 7, none⟩ (.int .i64 t2)) b1 33 #[.slice A0 k0 c0, .slice A1 k1 c1, .slice A2 k2 c2, .slice A3 k3 c3, .slice A4 k4 c4, .int .i64 t0, .int .i64 t1, .int .i64 t2, .int .i64 0, .int .i64 0] := rr6.set 7 (.int .i64 t2)
  have kk7 : KeptL [b1] u7 ((((((((u7.setCell ⟨b1, 0, none⟩ (.slice A0 k0 c0)).setCell ⟨b1, 1, none⟩ (.slice A1 k1 c1)).setCell ⟨b1, 2, none⟩ (.slice A2 k2 c2)).setCell ⟨b1, 3, none⟩ (.slice A3 k3 c3)).setCell ⟨b1, 4, none⟩ (.slice A4 k4 c4)).setCell ⟨b1, 5, none⟩ (.int .i64 t0)).setCell ⟨b1, 6, none⟩ (.int .i64 t1)).setCell ⟨b1, 7, none⟩ (.int .i64 t2)) := kk6.set (p := ⟨b1, 7, none⟩) (by simp) (.int .i64 t2)
  have rr8 : Row (((((((((u7.setCell ⟨b1, 0, none⟩ (.slice A0 k0 c0)).setCell ⟨b1, 1, none⟩ (.slice A1 k1 c1)).setCell ⟨b1, 2, none⟩ (.slice A2 k2 c2)).setCell ⟨b1, 3, none⟩ (.slice A3 k3 c3)).setCell ⟨b1, 4, none⟩ (.slice A4 k4 c4)).setCell ⟨b1, 5, none⟩ (.int .i64 t0)).setCell ⟨b1, 6, none⟩ (.int .i64 t1)).setCell ⟨b1, 7, none⟩ (.int .i64 t2)).setCell ⟨b1, 8, none⟩ (.int .i64 t3)) b1 33 #[.slice A0 k0 c0, .slice A1 k1 c1, .slice A2 k2 c2, .slice A3 k3 c3, .slice A4 k4 c4, .int .i64 t0, .int .i64 t1, .int .i64 t2, .int .i64 t3, .int .i64 0] := rr7.set 8 (.int .i64 t3)
  have kk8 : KeptL [b1] u7 (((((((((u7.setCell ⟨b1, 0, none⟩ (.slice A0 k0 c0)).setCell ⟨b1, 1, none⟩ (.slice A1 k1 c1)).setCell ⟨b1, 2, none⟩ (.slice A2 k2 c2)).setCell ⟨b1, 3, none⟩ (.slice A3 k3 c3)).setCell ⟨b1, 4, none⟩ (.slice A4 k4 c4)).setCell ⟨b1, 5, none⟩ (.int .i64 t0)).setCell ⟨b1, 6, none⟩ (.int .i64 t1)).setCell ⟨b1, 7, none⟩ (.int .i64 t2)).setCell ⟨b1, 8, none⟩ (.int .i64 t3)) := kk7.set (p := ⟨b1, 8, none⟩) (by simp) (.int .i64 t3)
  have rr9 : Row ((((((((((u7.setCell ⟨b1, 0, none⟩ (.slice A0 k0 c0)).setCell ⟨b1, 1, none⟩ (.slice A1 k1 c1)).setCell ⟨b1, 2, none⟩ (.slice A2 k2 c2)).setCell ⟨b1, 3, none⟩ (.slice A3 k3 c3)).setCell ⟨b1, 4, none⟩ (.slice A4 k4 c4)).setCell ⟨b1, 5, none⟩ (.int .i64 t0)).setCell ⟨b1, 6, none⟩ (.int .i64 t1)).setCell ⟨b1, 7, none⟩ (.int .i64 t2)).setCell ⟨b1, 8, none⟩ (.int .i64 t3)).setCell ⟨b1, 9, none⟩ (.int .i64 t4)) b1 33 #[.slice A0 k0 c0, .slice A1 k1 c1, .slice A2 k2 c2, .slice A3 k3 c3, .slice A4 k4 c4, .int .i64 t0, .int .i64 t1, .int .i64 t2, .int .i64 t3, .int .i64 t4] := rr8.set 9 (.int .i64 t4)
  have kk9 : KeptL [b1] u7 ((((((((((u7.setCell ⟨b1, 0, none⟩ (.slice A0 k0 c0)).setCell ⟨b1, 1, none⟩ (.slice A1 k1 c1)).setCell ⟨b1, 2, none⟩ (.slice A2 k2 c2)).setCell ⟨b1, 3, none⟩ (.slice A3 k3 c3)).setCell ⟨b1, 4, none⟩ (.slice A4 k4 c4)).setCell ⟨b1, 5, none⟩ (.int .i64 t0)).setCell ⟨b1, 6, none⟩ (.int .i64 t1)).setCell ⟨b1, 7, none⟩ (.int .i64 t2)).setCell ⟨b1, 8, none⟩ (.int .i64 t3)).setCell ⟨b1, 9, none⟩ (.int .i64 t4)) := kk8.set (p := ⟨b1, 9, none⟩) (by simp) (.int .i64 t4)
  have hfin := rr9
  have hkc := kk9
  refine bodyPost_ret (results_cell_row rfl _ _ b1 33 #[.slice A0 k0 c0, .slice A1 k1 c1, .slice A2 k2 c2, .slice A3 k3 c3, .slice A4 k4 c4, .int .i64 t0, .int .i64 t1, .int .i64 t2, .int .i64 t3, .int .i64 t4] (0, 0) _ rfl hfin Try.underlying33 rfl Try.size33) rfl ?_
  refine ⟨_, rfl, ?_, ?_, ?_⟩
  · rw [HTL.out]
    exact ⟨_, _, _, _, _, rfl, (Five.mk HF0.out HF1.out HF2.out HF3.out HF4.out : Five u7 _ _ _ _ _ ⟨_, _, _, _, _, t0, t1, t2, t3, t4⟩).kept hkc (other_one HO7.out.res)⟩
  · rw [HTL.out]
    exact HR7.out.keptL hkc (Other.one HO7.out.res (by decide)) (by simp; exact HO7.out.n1.2.2.2.2.1.symm)
  · exact KeptL.fresh (k := b1) (KeptL.fresh (k := b2) ((HK.out.mono (by intro k hk; simp at *; omega)).trans (hkc.mono (by intro k hk; simp at *; omega))) HSZ.out.1) HSZ.out.2

end Go.Proofs.Ythpfhcelmddjlaa
