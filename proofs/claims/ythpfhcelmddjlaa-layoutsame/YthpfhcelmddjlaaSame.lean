/- Contracts: are two layouts alike? -/
import Derived.Test.YthpfhcelmddjlaaAlike3
namespace Go.Proofs.Ythpfhcelmddjlaa
open Go.RowKit Fl
set_option maxRecDepth 100000

/-- Is nothing of them another thing? -/
def Alike (a b : Lay) : Prop := a.nodes = b.nodes ∧ a.secs = b.secs ∧ a.parts = b.parts ∧ a.points = b.points ∧ a.routes = b.routes ∧ a.speed = b.speed ∧ a.mute = b.mute ∧ a.wait = b.wait ∧ a.cancel = b.cancel ∧ a.stay = b.stay
instance (a b : Lay) : Decidable (Alike a b) := by unfold Alike; exact inferInstance

theorem alike_refl (a : Lay) : Alike a a := ⟨rfl, rfl, rfl, rfl, rfl, rfl, rfl, rfl, rfl, rfl⟩

def RetL (b : Bool) (w : World) (e : Ending) (w' : World) : Prop := e = .returned (.bool b) ∧ Below w.heap.size w w'

/-- Two layouts, each in a block. -/
structure Two (W : World) (n0 n1 : Nat) (C C' : Array Value) : Prop where
  a : Row W n0 33 C
  b : Row W n1 33 C'

theorem two_of (w : World) (C C' : Array Value) : Two ((w.alloc (.cells C 33)).alloc (.cells C' 33)) w.heap.size (w.heap.size + 1) C C' := by
  have r1 := Row.new w 33 C
  have r2 := Row.new (w.alloc (.cells C 33)) 33 C'
  simp only [World.size_alloc] at r1 r2
  exact ⟨r1.alloc _, r2⟩

theorem Two.drewN {W : World} {n0 n1 : Nat} {C C' : Array Value} (h : Two W n0 n1 C C') (m : Nat) : Two (W.drewN m) n0 n1 C C' := ⟨h.a, h.b⟩
theorem LayData.drewN {W : World} {D : Nat} {vN vS vP vQ vR : Value} {ps : List (Nat × Nat)} {L : Lay} (h : LayData W D vN vS vP vQ vR ps L) (m : Nat) : LayData (W.drewN m) D vN vS vP vQ vR ps L := h.mono (Nat.le_refl _) fun _ _ => rfl


set_option maxHeartbeats 16000000 in
theorem same_any (w : World) (va vb : Value) (a b : Lay) (ha : LayV w w.heap.size va a) (hb : LayV w w.heap.size vb b) (hma : Modest a) : Calls Try.prog 16 #[va, vb] w (RetL (decide (Alike a b)) w) := by
  obtain ⟨vN, vS, vP, vQ, vR, ps, rfl, hda⟩ := ha
  obtain ⟨uN, uS, uP, uQ, uR, qs, rfl, hdb⟩ := hb
  obtain ⟨⟨A0, c0, rfl⟩, ⟨A1, c1, rfl⟩, ⟨A2, c2, rfl⟩, ⟨A3, c3, rfl⟩, ⟨A4, c4, rfl⟩⟩ := hda.slices
  obtain ⟨⟨B0, d0, rfl⟩, ⟨B1, d1, rfl⟩, ⟨B2, d2, rfl⟩, ⟨B3, d3, rfl⟩, ⟨B4, d4, rfl⟩⟩ := hdb.slices
  obtain ⟨ka0, hka0⟩ : ∃ k, a.nodes.length = k := ⟨_, rfl⟩
  obtain ⟨kb0, hkb0⟩ : ∃ k, b.nodes.length = k := ⟨_, rfl⟩
  obtain ⟨ka1, hka1⟩ : ∃ k, a.secs.length = k := ⟨_, rfl⟩
  obtain ⟨kb1, hkb1⟩ : ∃ k, b.secs.length = k := ⟨_, rfl⟩
  obtain ⟨ka2, hka2⟩ : ∃ k, a.parts.length = k := ⟨_, rfl⟩
  obtain ⟨kb2, hkb2⟩ : ∃ k, b.parts.length = k := ⟨_, rfl⟩
  obtain ⟨ka3, hka3⟩ : ∃ k, a.points.length = k := ⟨_, rfl⟩
  obtain ⟨kb3, hkb3⟩ : ∃ k, b.points.length = k := ⟨_, rfl⟩
  obtain ⟨ka4, hka4⟩ : ∃ k, a.routes.length = k := ⟨_, rfl⟩
  obtain ⟨kb4, hkb4⟩ : ∃ k, b.routes.length = k := ⟨_, rfl⟩
  have HKA : Hid (a.nodes.length = ka0 ∧ a.secs.length = ka1 ∧ a.parts.length = ka2 ∧ a.points.length = ka3 ∧ a.routes.length = ka4) := ⟨hka0, hka1, hka2, hka3, hka4⟩
  have HKB : Hid (b.nodes.length = kb0 ∧ b.secs.length = kb1 ∧ b.parts.length = kb2 ∧ b.points.length = kb3 ∧ b.routes.length = kb4) := ⟨hkb0, hkb1, hkb2, hkb3, hkb4⟩
  rw [hka0, hka1, hka2, hka3, hka4] at hda ⊢
  rw [hkb0, hkb1, hkb2, hkb3, hkb4] at hdb ⊢
  clear hka0 hkb0 hka1 hkb1 hka2 hkb2 hka3 hkb3 hka4 hkb4
  have HM := Lib.hid hma
  have hb2 := below2 w (.cells #[.slice A0 ka0 c0, .slice A1 ka1 c1, .slice A2 ka2 c2, .slice A3 ka3 c3, .slice A4 ka4 c4, .int .i64 a.speed, .int .i64 a.mute, .int .i64 a.wait, .int .i64 a.cancel, .int .i64 a.stay] 33) (.cells #[.slice B0 kb0 d0, .slice B1 kb1 d1, .slice B2 kb2 d2, .slice B3 kb3 d3, .slice B4 kb4 d4, .int .i64 b.speed, .int .i64 b.mute, .int .i64 b.wait, .int .i64 b.cancel, .int .i64 b.stay] 33)
  have HT := Lib.hid (two_of w #[.slice A0 ka0 c0, .slice A1 ka1 c1, .slice A2 ka2 c2, .slice A3 ka3 c3, .slice A4 ka4 c4, .int .i64 a.speed, .int .i64 a.mute, .int .i64 a.wait, .int .i64 a.cancel, .int .i64 a.stay] #[.slice B0 kb0 d0, .slice B1 kb1 d1, .slice B2 kb2 d2, .slice B3 kb3 d3, .slice B4 kb4 d4, .int .i64 b.speed, .int .i64 b.mute, .int .i64 b.wait, .int .i64 b.cancel, .int .i64 b.stay])
  have HDA := Lib.hid (hda.mono (w' := (w.alloc (.cells #[.slice A0 ka0 c0, .slice A1 ka1 c1, .slice A2 ka2 c2, .slice A3 ka3 c3, .slice A4 ka4 c4, .int .i64 a.speed, .int .i64 a.mute, .int .i64 a.wait, .int .i64 a.cancel, .int .i64 a.stay] 33)).alloc (.cells #[.slice B0 kb0 d0, .slice B1 kb1 d1, .slice B2 kb2 d2, .slice B3 kb3 d3, .slice B4 kb4 d4, .int .i64 b.speed, .int .i64 b.mute, .int .i64 b.wait, .int .i64 b.cancel, .int .i64 b.stay] 33)) (Nat.le_refl _) fun p hp => hb2.cell hp)
  have HDB := Lib.hid (hdb.mono (w' := (w.alloc (.cells #[.slice A0 ka0 c0, .slice A1 ka1 c1, .slice A2 ka2 c2, .slice A3 ka3 c3, .slice A4 ka4 c4, .int .i64 a.speed, .int .i64 a.mute, .int .i64 a.wait, .int .i64 a.cancel, .int .i64 a.stay] 33)).alloc (.cells #[.slice B0 kb0 d0, .slice B1 kb1 d1, .slice B2 kb2 d2, .slice B3 kb3 d3, .slice B4 kb4 d4, .int .i64 b.speed, .int .i64 b.mute, .int .i64 b.wait, .int .i64 b.cancel, .int .i64 b.stay] 33)) (Nat.le_refl _) fun p hp => hb2.cell hp)
  have HB := Lib.hid hb2
  clear hda hdb hb2 hma
  go_enter Try.func16, Try.ntmps16
  go_wp2_with fail
  obtain ⟨n0, hn0⟩ : ∃ n, n = w.heap.size := ⟨_, rfl⟩
  obtain ⟨n1, hn1⟩ : ∃ n, n = w.heap.size + 1 := ⟨_, rfl⟩
  rw [← hn1, ← hn0]
  rw [← hn1, ← hn0] at HT
  rw [← hn0] at HDA HDB HB
  have HN0 := Lib.hid hn0
  clear hn0 hn1
  generalize (w.alloc (.cells #[.slice A0 ka0 c0, .slice A1 ka1 c1, .slice A2 ka2 c2, .slice A3 ka3 c3, .slice A4 ka4 c4, .int .i64 a.speed, .int .i64 a.mute, .int .i64 a.wait, .int .i64 a.cancel, .int .i64 a.stay] 33)).alloc (.cells #[.slice B0 kb0 d0, .slice B1 kb1 d1, .slice B2 kb2 d2, .slice B3 kb3 d3, .slice B4 kb4 d4, .int .i64 b.speed, .int .i64 b.mute, .int .i64 b.wait, .int .i64 b.cancel, .int .i64 b.stay] 33) = W0 at *
  refine (equalNodes_any _ n0 _ _ ps qs a.nodes b.nodes HDA.out.n HDB.out.n HDA.out.f HDB.out.f (Nat.le_trans HM.out.nodes (by omega))).mono ?_
  rintro e w1 ⟨rfl, m, rfl⟩
  have HT' := Lib.hid (HT.out.drewN m); have HDA' := Lib.hid (HDA.out.drewN m); have HDB' := Lib.hid (HDB.out.drewN m); have HB' := Lib.hid (below_drewN HB.out m)
  clear HT HDA HDB HB
  have HT := HT'; have HDA := HDA'; have HDB := HDB'; have HB := HB'
  clear HT' HDA' HDB' HB'
  generalize W0.drewN m = W1 at *
  by_cases hk0 : a.nodes = b.nodes
  rotate_left
  · have HNo : Hid (¬ Alike a b) := fun h => hk0 h.1
    rw [decide_eq_false hk0]
    go_wp2_with fail
    go_ret
    exact ⟨ret_bool (by rw [decide_eq_false HNo.out]), by rw [← HN0.out]; exact HB.out⟩
  rw [decide_eq_true hk0]
  have HK0 := Lib.hid hk0; clear hk0
  have fa1 := HT.out.a.cell 1; have fb1 := HT.out.b.cell 1
  simp only [List.getElem?_toArray, List.getElem?_cons_zero, List.getElem?_cons_succ] at fa1 fb1
  go_wp2_with fail
  refine (equalSecs_any _ n0 _ _ a.secs b.secs HDA.out.s HDB.out.s (Nat.le_trans HM.out.secs (by omega))).mono ?_
  rintro e w1 ⟨rfl, m, rfl⟩
  have HT' := Lib.hid (HT.out.drewN m); have HDA' := Lib.hid (HDA.out.drewN m); have HDB' := Lib.hid (HDB.out.drewN m); have HB' := Lib.hid (below_drewN HB.out m)
  clear HT HDA HDB HB fa1 fb1
  have HT := HT'; have HDA := HDA'; have HDB := HDB'; have HB := HB'
  clear HT' HDA' HDB' HB'
  generalize W1.drewN m = W2 at *
  by_cases hk1 : a.secs = b.secs
  rotate_left
  · have HNo : Hid (¬ Alike a b) := fun h => hk1 h.2.1
    rw [decide_eq_false hk1]
    go_wp2_with fail
    go_ret
    exact ⟨ret_bool (by rw [decide_eq_false HNo.out]), by rw [← HN0.out]; exact HB.out⟩
  rw [decide_eq_true hk1]
  have HK1 := Lib.hid hk1; clear hk1
  have fa2 := HT.out.a.cell 2; have fb2 := HT.out.b.cell 2
  simp only [List.getElem?_toArray, List.getElem?_cons_zero, List.getElem?_cons_succ] at fa2 fb2
  go_wp2_with fail
  refine (sameRows_any _ n0 _ _ a.parts b.parts HDA.out.p HDB.out.p (fun r hr => Nat.le_trans (HM.out.part r hr) (by omega)) (Nat.le_trans HM.out.parts (by omega))).mono ?_
  rintro e w1 ⟨rfl, m, rfl⟩
  have HT' := Lib.hid (HT.out.drewN m); have HDA' := Lib.hid (HDA.out.drewN m); have HDB' := Lib.hid (HDB.out.drewN m); have HB' := Lib.hid (below_drewN HB.out m)
  clear HT HDA HDB HB fa2 fb2
  have HT := HT'; have HDA := HDA'; have HDB := HDB'; have HB := HB'
  clear HT' HDA' HDB' HB'
  generalize W2.drewN m = W3 at *
  by_cases hk2 : a.parts = b.parts
  rotate_left
  · have HNo : Hid (¬ Alike a b) := fun h => hk2 h.2.2.1
    rw [decide_eq_false hk2]
    go_wp2_with fail
    go_ret
    exact ⟨ret_bool (by rw [decide_eq_false HNo.out]), by rw [← HN0.out]; exact HB.out⟩
  rw [decide_eq_true hk2]
  have HK2 := Lib.hid hk2; clear hk2
  have fa3 := HT.out.a.cell 3; have fb3 := HT.out.b.cell 3
  simp only [List.getElem?_toArray, List.getElem?_cons_zero, List.getElem?_cons_succ] at fa3 fb3
  go_wp2_with fail
  refine (equalPoints_any _ n0 _ _ a.points b.points HDA.out.q HDB.out.q (Nat.le_trans HM.out.points (by omega))).mono ?_
  rintro e w1 ⟨rfl, m, rfl⟩
  have HT' := Lib.hid (HT.out.drewN m); have HDA' := Lib.hid (HDA.out.drewN m); have HDB' := Lib.hid (HDB.out.drewN m); have HB' := Lib.hid (below_drewN HB.out m)
  clear HT HDA HDB HB fa3 fb3
  have HT := HT'; have HDA := HDA'; have HDB := HDB'; have HB := HB'
  clear HT' HDA' HDB' HB'
  generalize W3.drewN m = W4 at *
  by_cases hk3 : a.points = b.points
  rotate_left
  · have HNo : Hid (¬ Alike a b) := fun h => hk3 h.2.2.2.1
    rw [decide_eq_false hk3]
    go_wp2_with fail
    go_ret
    exact ⟨ret_bool (by rw [decide_eq_false HNo.out]), by rw [← HN0.out]; exact HB.out⟩
  rw [decide_eq_true hk3]
  have HK3 := Lib.hid hk3; clear hk3
  have fa4 := HT.out.a.cell 4; have fb4 := HT.out.b.cell 4
  simp only [List.getElem?_toArray, List.getElem?_cons_zero, List.getElem?_cons_succ] at fa4 fb4
  go_wp2_with fail
  refine (sameRows_any _ n0 _ _ a.routes b.routes HDA.out.r HDB.out.r (fun r hr => Nat.le_trans (HM.out.route r hr) (by omega)) (Nat.le_trans HM.out.routes (by omega))).mono ?_
  rintro e w1 ⟨rfl, m, rfl⟩
  have HT' := Lib.hid (HT.out.drewN m); have HDA' := Lib.hid (HDA.out.drewN m); have HDB' := Lib.hid (HDB.out.drewN m); have HB' := Lib.hid (below_drewN HB.out m)
  clear HT HDA HDB HB fa4 fb4
  have HT := HT'; have HDA := HDA'; have HDB := HDB'; have HB := HB'
  clear HT' HDA' HDB' HB'
  generalize W4.drewN m = W5 at *
  by_cases hk4 : a.routes = b.routes
  rotate_left
  · have HNo : Hid (¬ Alike a b) := fun h => hk4 h.2.2.2.2.1
    rw [decide_eq_false hk4]
    go_wp2_with fail
    go_ret
    exact ⟨ret_bool (by rw [decide_eq_false HNo.out]), by rw [← HN0.out]; exact HB.out⟩
  rw [decide_eq_true hk4]
  have HK4 := Lib.hid hk4; clear hk4
  have fa5 := HT.out.a.cell 5; have fb5 := HT.out.b.cell 5
  have fa6 := HT.out.a.cell 6; have fb6 := HT.out.b.cell 6
  have fa7 := HT.out.a.cell 7; have fb7 := HT.out.b.cell 7
  have fa8 := HT.out.a.cell 8; have fb8 := HT.out.b.cell 8
  have fa9 := HT.out.a.cell 9; have fb9 := HT.out.b.cell 9
  simp only [List.getElem?_toArray, List.getElem?_cons_zero, List.getElem?_cons_succ] at fa5 fb5 fa6 fb6 fa7 fb7 fa8 fb8 fa9 fb9
  generalize hx0 : a.speed = x0 at *
  generalize hy0 : b.speed = y0 at *
  generalize hx1 : a.mute = x1 at *
  generalize hy1 : b.mute = y1 at *
  generalize hx2 : a.wait = x2 at *
  generalize hy2 : b.wait = y2 at *
  generalize hx3 : a.cancel = x3 at *
  generalize hy3 : b.cancel = y3 at *
  generalize hx4 : a.stay = x4 at *
  generalize hy4 : b.stay = y4 at *
  have HXY : Hid (a.speed = x0 ∧ b.speed = y0 ∧ a.mute = x1 ∧ b.mute = y1 ∧ a.wait = x2 ∧ b.wait = y2 ∧ a.cancel = x3 ∧ b.cancel = y3 ∧ a.stay = x4 ∧ b.stay = y4) := ⟨hx0, hy0, hx1, hy1, hx2, hy2, hx3, hy3, hx4, hy4⟩
  clear hx0 hy0 hx1 hy1 hx2 hy2 hx3 hy3 hx4 hy4
  by_cases e0 : x0 = y0
  rotate_left
  · have HNo : Hid (¬ Alike a b) := fun h => e0 (by have := h.2.2.2.2.2.1; rw [HXY.out.1, HXY.out.2.1] at this; exact this)
    have hd : (x0 == y0) = false := by simpa using e0
    clear e0
    go_wp2_with fail
    go_ret
    exact ⟨ret_bool (by rw [decide_eq_false HNo.out]), by rw [← HN0.out]; exact HB.out⟩
  by_cases e1 : x1 = y1
  rotate_left
  · have HNo : Hid (¬ Alike a b) := fun h => e1 (by have := h.2.2.2.2.2.2.1; rw [HXY.out.2.2.1, HXY.out.2.2.2.1] at this; exact this)
    have hd : (x1 == y1) = false := by simpa using e1
    clear e1
    go_wp2_with fail
    go_ret
    exact ⟨ret_bool (by rw [decide_eq_false HNo.out]), by rw [← HN0.out]; exact HB.out⟩
  by_cases e2 : x2 = y2
  rotate_left
  · have HNo : Hid (¬ Alike a b) := fun h => e2 (by have := h.2.2.2.2.2.2.2.1; rw [HXY.out.2.2.2.2.1, HXY.out.2.2.2.2.2.1] at this; exact this)
    have hd : (x2 == y2) = false := by simpa using e2
    clear e2
    go_wp2_with fail
    go_ret
    exact ⟨ret_bool (by rw [decide_eq_false HNo.out]), by rw [← HN0.out]; exact HB.out⟩
  by_cases e3 : x3 = y3
  rotate_left
  · have HNo : Hid (¬ Alike a b) := fun h => e3 (by have := h.2.2.2.2.2.2.2.2.1; rw [HXY.out.2.2.2.2.2.2.1, HXY.out.2.2.2.2.2.2.2.1] at this; exact this)
    have hd : (x3 == y3) = false := by simpa using e3
    clear e3
    go_wp2_with fail
    go_ret
    exact ⟨ret_bool (by rw [decide_eq_false HNo.out]), by rw [← HN0.out]; exact HB.out⟩
  by_cases e4 : x4 = y4
  rotate_left
  · have HNo : Hid (¬ Alike a b) := fun h => e4 (by have := h.2.2.2.2.2.2.2.2.2; rw [HXY.out.2.2.2.2.2.2.2.2.1, HXY.out.2.2.2.2.2.2.2.2.2] at this; exact this)
    have hd : (x4 == y4) = false := by simpa using e4
    clear e4
    go_wp2_with fail
    go_ret
    exact ⟨ret_bool (by rw [decide_eq_false HNo.out]), by rw [← HN0.out]; exact HB.out⟩
  have HYes : Hid (Alike a b) := ⟨HK0.out, HK1.out, HK2.out, HK3.out, HK4.out, by rw [HXY.out.1, HXY.out.2.1]; exact e0, by rw [HXY.out.2.2.1, HXY.out.2.2.2.1]; exact e1, by rw [HXY.out.2.2.2.2.1, HXY.out.2.2.2.2.2.1]; exact e2, by rw [HXY.out.2.2.2.2.2.2.1, HXY.out.2.2.2.2.2.2.2.1]; exact e3, by rw [HXY.out.2.2.2.2.2.2.2.2.1, HXY.out.2.2.2.2.2.2.2.2.2]; exact e4⟩
  subst e0 e1 e2 e3 e4
  go_wp2_with fail
  go_ret
  exact ⟨ret_bool (by rw [decide_eq_true HYes.out]), by rw [← HN0.out]; exact HB.out⟩

end Go.Proofs.Ythpfhcelmddjlaa
