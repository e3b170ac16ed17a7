/- Contract: Encode: a layout's bytes. -/
import Derived.Test.YthpfhcelmddjlaaLists2
import Derived.Lib.OthersKept
import Derived.LoopN
namespace Go.Proofs.Ythpfhcelmddjlaa
open Go.RowKit Fl
set_option maxRecDepth 100000

/-- What five slices of a layout hold. -/
structure LayData (w : World) (D : Nat) (vN vS vP vQ vR : Value) (ps : List (Nat × Nat)) (L : Lay) : Prop where
  n : Rd w D vN (nvals ps)
  f : FlN ps L.nodes
  s : Secs w D vS L.secs
  p : RowsAt w D vP L.parts
  q : Pts w D vQ L.points
  r : RowsAt w D vR L.routes

def times (L : Lay) : List Value := [.int .i64 L.speed, .int .i64 L.mute, .int .i64 L.wait, .int .i64 L.cancel, .int .i64 L.stay]

/-- A layout, as a value. -/
def LayV (w : World) (D : Nat) (v : Value) (L : Lay) : Prop :=
  ∃ vN vS vP vQ vR ps, v = .agg #[vN, vS, vP, vQ, vR, .int .i64 L.speed, .int .i64 L.mute, .int .i64 L.wait, .int .i64 L.cancel, .int .i64 L.stay] ∧ LayData w D vN vS vP vQ vR ps L

theorem Secs.mono {w w' : World} {D D' : Nat} {v : Value} {xs : List (Int × Int × Int)} (h : Secs w D v xs) (hD : D ≤ D') (hc : ∀ p : Addr, p.block < D → w'.cell? p = w.cell? p) : Secs w' D' v xs := by
  obtain ⟨A, c, hv, hx⟩ := h
  refine ⟨A, c, hv, fun hp => ?_⟩
  obtain ⟨b, o, hA, hb, hcell⟩ := hx hp
  exact ⟨b, o, hA, by omega, fun j hj => ⟨(hc _ hb).trans (hcell j hj).1, (hc _ hb).trans (hcell j hj).2.1, (hc _ hb).trans (hcell j hj).2.2⟩⟩

theorem Pts.mono {w w' : World} {D D' : Nat} {v : Value} {xs : List (Int × Int × Int × Int)} (h : Pts w D v xs) (hD : D ≤ D') (hc : ∀ p : Addr, p.block < D → w'.cell? p = w.cell? p) : Pts w' D' v xs := by
  obtain ⟨A, c, hv, hx⟩ := h
  refine ⟨A, c, hv, fun hp => ?_⟩
  obtain ⟨b, o, hA, hb, hcell⟩ := hx hp
  exact ⟨b, o, hA, by omega, fun j hj => ⟨(hc _ hb).trans (hcell j hj).1, (hc _ hb).trans (hcell j hj).2.1, (hc _ hb).trans (hcell j hj).2.2.1, (hc _ hb).trans (hcell j hj).2.2.2⟩⟩

theorem RowsAt.mono {w w' : World} {D D' : Nat} {v : Value} {xs : List (List Int)} (h : RowsAt w D v xs) (hD : D ≤ D') (hc : ∀ p : Addr, p.block < D → w'.cell? p = w.cell? p) : RowsAt w' D' v xs := by
  obtain ⟨vs, h1, h2, h3⟩ := h
  exact ⟨vs, h1.mono hD hc, h2, fun i a b => (h3 i a b).mono hD hc⟩

theorem LayData.mono {w w' : World} {D D' : Nat} {vN vS vP vQ vR : Value} {ps : List (Nat × Nat)} {L : Lay} (h : LayData w D vN vS vP vQ vR ps L) (hD : D ≤ D') (hc : ∀ p : Addr, p.block < D → w'.cell? p = w.cell? p) : LayData w' D' vN vS vP vQ vR ps L :=
  ⟨h.n.mono hD hc, h.f, h.s.mono hD hc, h.p.mono hD hc, h.q.mono hD hc, h.r.mono hD hc⟩

theorem LayV.mono {w w' : World} {D D' : Nat} {v : Value} {L : Lay} (h : LayV w D v L) (hD : D ≤ D') (hc : ∀ p : Addr, p.block < D → w'.cell? p = w.cell? p) : LayV w' D' v L := by
  obtain ⟨a, b, c, d, e, ps, hv, hd⟩ := h
  exact ⟨a, b, c, d, e, ps, hv, hd.mono hD hc⟩

theorem LayV.up {w w' : World} {v : Value} {L : Lay} (h : LayV w w.heap.size v L) (hb : Below w.heap.size w w') : LayV w' w'.heap.size v L := h.mono hb.size fun _ hp => hb.cell hp

theorem LayData.slices {w : World} {D : Nat} {vN vS vP vQ vR : Value} {ps : List (Nat × Nat)} {L : Lay} (h : LayData w D vN vS vP vQ vR ps L) :
    (∃ A c, vN = .slice A L.nodes.length c) ∧ (∃ A c, vS = .slice A L.secs.length c) ∧ (∃ A c, vP = .slice A L.parts.length c) ∧ (∃ A c, vQ = .slice A L.points.length c) ∧ (∃ A c, vR = .slice A L.routes.length c) := by
  refine ⟨?_, ?_, ?_, ?_, ?_⟩
  · obtain ⟨A, c, rfl, _⟩ := h.n; exact ⟨A, c, by rw [nvals_length, h.f.1]⟩
  · obtain ⟨A, c, rfl, _⟩ := h.s; exact ⟨A, c, rfl⟩
  · obtain ⟨vs, ⟨A, c, rfl, _⟩, hl, _⟩ := h.p; exact ⟨A, c, by rw [hl]⟩
  · obtain ⟨A, c, rfl, _⟩ := h.q; exact ⟨A, c, rfl⟩
  · obtain ⟨vs, ⟨A, c, rfl, _⟩, hl, _⟩ := h.r; exact ⟨A, c, by rw [hl]⟩

/-- Not too many of anything. -/
structure Modest (L : Lay) : Prop where
  nodes : L.nodes.length ≤ 1000
  secs : L.secs.length ≤ 1000
  parts : L.parts.length ≤ 1000
  points : L.points.length ≤ 1000
  routes : L.routes.length ≤ 1000
  part : ∀ r ∈ L.parts, r.length ≤ 1000
  route : ∀ r ∈ L.routes, r.length ≤ 1000
  node : ∀ p ∈ L.nodes, p.1.natAbs ≤ 4000000000 ∧ p.2.natAbs ≤ 4000000000
  bits : (enc L).length ≤ 100000

abbrev bl : ByteArray := { data := #[66, 76] }

theorem next0 (w : World) (k : Nat) (hk : w.heap[k]? = some (.stringIter bl 0)) : ∀ ty, (Instr.next (.pointer (some ⟨k, 0, none⟩)) true ty).run Try.prog w = .ok (.tuple #[.bool true, .int .i64 0, .int .i32 66]) (w.iterAt k bl 1) := fun ty =>
  Lib.run_next_ascii_at w k bl 0 ty hk (by decide) (by decide)
theorem next1 (w : World) (k : Nat) (hk : w.heap[k]? = some (.stringIter bl 1)) : ∀ ty, (Instr.next (.pointer (some ⟨k, 0, none⟩)) true ty).run Try.prog w = .ok (.tuple #[.bool true, .int .i64 1, .int .i32 76]) (w.iterAt k bl 2) := fun ty =>
  Lib.run_next_ascii_at w k bl 1 ty hk (by decide) (by decide)
theorem next2 (w : World) (k : Nat) (hk : w.heap[k]? = some (.stringIter bl 2)) : ∀ ty, (Instr.next (.pointer (some ⟨k, 0, none⟩)) true ty).run Try.prog w = .ok (.tuple #[.bool false]) w := fun ty =>
  Lib.run_next_end_at w k bl 2 ty hk (by decide)

theorem Row.iter {w : World} {g : Nat} {t : TypeId} {cs : Array Value} (h : Row w g t cs) {k : Nat} (hk : g ≠ k) (s : ByteArray) (p : Nat) : Row (w.iterAt k s p) g t cs := (Lib.iterAt_other w k g s p hk).trans h

/-- What Encode's own variables hold. -/
structure Env (W : World) (n0 b1 b2 : Nat) (C : Array Value) : Prop where
  box : Row W n0 33 C
  var : Row W b2 57 #[.pointer (some ⟨b1, 0, none⟩)]

theorem Env.still {W W' : World} {n0 b1 b2 : Nat} {C cs : Array Value} (h : Env W n0 b1 b2 C) (hs : Still b1 W W') (hg : Row W b1 59 cs) : Env W' n0 b1 b2 C :=
  ⟨hs.row h.box (by decide) hg (by decide), hs.row h.var (by decide) hg (by decide)⟩
theorem Env.alloc {W : World} {n0 b1 b2 : Nat} {C : Array Value} (h : Env W n0 b1 b2 C) (o : Obj) : Env (W.alloc o) n0 b1 b2 C := ⟨h.box.alloc o, h.var.alloc o⟩
theorem Env.iter {W : World} {n0 b1 b2 b3 : Nat} {C : Array Value} (h : Env W n0 b1 b2 C) (s : ByteArray) (p : Nat) (h3 : n0 ≠ b3 ∧ b2 ≠ b3) : Env (W.iterAt b3 s p) n0 b1 b2 C := ⟨h.box.iter h3.1 s p, h.var.iter h3.2 s p⟩

theorem Wr.iter {w : World} {B g : Nat} {l : List Bool} (h : Wr w B g l) {k : Nat} {s : ByteArray} {p : Nat} (hk : w.heap[k]? = some (.stringIter s p)) (p' : Nat) : Wr (w.iterAt k s p') B g l := by
  obtain ⟨v, hr, ho⟩ := h
  refine ⟨v, hr.iter (by rintro rfl; unfold Row at hr; rw [hk] at hr; cases hr) s p', ?_⟩
  obtain ⟨h1, h2⟩ := ho
  refine ⟨h1, ?_⟩
  rcases h2 with h2 | ⟨r, cap, cur, rfl, hb, hh, rest⟩
  · exact Or.inl h2
  · refine Or.inr ⟨r, cap, cur, rfl, hb, ?_, rest⟩
    rw [Lib.iterAt_other _ _ _ _ _ (by rintro rfl; rw [hk] at hh; cases hh)]; exact hh


/-- Encode's memory as it comes to the letters. -/
structure Start (w W : World) (b1 b2 b3 : Nat) : Prop where
  below : Below w.heap.size w W
  wr : Wr W (b3 + 1) b1 []
  iter : W.heap[b3]? = some (.stringIter bl 0)
  size : W.heap.size = b3 + 1
  e1 : b1 = w.heap.size + 1
  e2 : b2 = w.heap.size + 2
  e3 : b3 = w.heap.size + 3

theorem start_of (w : World) (C : Array Value) : Start w ((((w.alloc (.cells C 33)).alloc (.cells #[.slice none 0 0, .int .i64 0] 59)).alloc (.cells #[.pointer (some ⟨w.heap.size + 1, 0, none⟩)] 57)).iter bl 0) (w.heap.size + 1) (w.heap.size + 1 + 1) (w.heap.size + 1 + 1 + 1) ∧
    Env ((((w.alloc (.cells C 33)).alloc (.cells #[.slice none 0 0, .int .i64 0] 59)).alloc (.cells #[.pointer (some ⟨w.heap.size + 1, 0, none⟩)] 57)).iter bl 0) w.heap.size (w.heap.size + 1) (w.heap.size + 1 + 1) C := by
  have r1 := Row.new w 33 C
  have r2 := Row.new (w.alloc (.cells C 33)) 59 #[.slice none 0 0, .int .i64 0]
  have r3 := Row.new ((w.alloc (.cells C 33)).alloc (.cells #[.slice none 0 0, .int .i64 0] 59)) 57 #[.pointer (some ⟨w.heap.size + 1, 0, none⟩)]
  have r4 := World.iter_heap (((w.alloc (.cells C 33)).alloc (.cells #[.slice none 0 0, .int .i64 0] 59)).alloc (.cells #[.pointer (some ⟨w.heap.size + 1, 0, none⟩)] 57)) bl 0
  simp only [World.size_alloc] at r1 r2 r3 r4
  refine ⟨⟨?_, ⟨.slice none 0 0, (r2.alloc _).alloc _, World.ownsRow_nil _ _ _ _⟩, r4, ?_, rfl, rfl, rfl⟩, ⟨((r1.alloc _).alloc _).alloc _, r3.alloc _⟩⟩
  · exact ((((Below.refl _ _).alloc (Nat.le_refl _) _).alloc (by simp) _).alloc (by simp [World.size_alloc]; omega) _).alloc (by simp [World.size_alloc]; omega) _
  · simp [World.iter, World.size_alloc]

theorem Below.iter {B : Nat} {a w : World} (h : Below B a w) {k : Nat} (hk : B ≤ k) (s : ByteArray) (p : Nat) : Below B a (w.iterAt k s p) := Lib.below_iterAt h hk s p

set_option maxHeartbeats 8000000 in
theorem encode_any (w : World) (v : Value) (L : Lay) (hv : LayV w w.heap.size v L) (hm : Modest L) : Calls Try.prog 12 #[v] w (RetBytes (closed (pack (enc L))) w) := by
  obtain ⟨vN, vS, vP, vQ, vR, ps, rfl, hd⟩ := hv
  obtain ⟨⟨A0, c0, rfl⟩, ⟨A1, c1, rfl⟩, ⟨A2, c2, rfl⟩, ⟨A3, c3, rfl⟩, ⟨A4, c4, rfl⟩⟩ := hd.slices
  have HD := Lib.hid hd; have HM := Lib.hid hm
  clear hd hm
  generalize ht0 : L.speed = t0 at *
  generalize ht1 : L.mute = t1 at *
  generalize ht2 : L.wait = t2 at *
  generalize ht3 : L.cancel = t3 at *
  generalize ht4 : L.stay = t4 at *
  have HT : Hid (etimes L = nbit 16 t0 ++ (nbit 16 t1 ++ (nbit 16 t2 ++ (nbit 16 t3 ++ nbit 16 t4)))) := by show _ = _; unfold etimes; rw [ht0, ht1, ht2, ht3, ht4]
  clear ht0 ht1 ht2 ht3 ht4
  generalize L.nodes.length = k0 at *
  generalize L.secs.length = k1 at *
  generalize L.parts.length = k2 at *
  generalize L.points.length = k3 at *
  generalize L.routes.length = k4 at *
  obtain ⟨hst, hen⟩ := start_of w #[.slice A0 k0 c0, .slice A1 k1 c1, .slice A2 k2 c2, .slice A3 k3 c3, .slice A4 k4 c4, .int .i64 t0, .int .i64 t1, .int .i64 t2, .int .i64 t3, .int .i64 t4]
  have HS := Lib.hid hst; have HE := Lib.hid hen
  clear hst hen
  go_enter Try.func12, Try.ntmps12
  go_wp2_with fail
  generalize hW0 : (((w.alloc (.cells #[.slice A0 k0 c0, .slice A1 k1 c1, .slice A2 k2 c2, .slice A3 k3 c3, .slice A4 k4 c4, .int .i64 t0, .int .i64 t1, .int .i64 t2, .int .i64 t3, .int .i64 t4] 33)).alloc (.cells #[.slice none 0 0, .int .i64 0] 59)).alloc (.cells #[.pointer (some ⟨w.heap.size + 1, 0, none⟩)] 57)).iter bl 0 = W0 at *
  clear hW0
  generalize hb1 : w.heap.size + 1 = b1 at *
  generalize hb2 : b1 + 1 = b2 at *
  generalize hb3 : b2 + 1 = b3 at *
  refine wp_loop_rounds 3 ?_
  rw [rounds_succ]
  have x0 := next0 W0 b3 HS.out.iter
  have E0 := Lib.hid (HE.out.iter bl 1 (b3 := b3) ⟨by omega, by omega⟩)
  have Q0 := Lib.hid (HS.out.wr.iter HS.out.iter 1)
  have I0 := Lib.hid (Lib.iterAt_heap W0 b3 bl 0 1 HS.out.iter)
  have L0 := Lib.hid (Below.iter HS.out.below (show w.heap.size ≤ b3 by omega) bl 1)
  have Z0 : Hid ((W0.iterAt b3 bl 1).heap.size = b3 + 1) := by show _ = _; rw [Lib.iterAt_size]; exact HS.out.size
  have g0 := E0.out.var.cell 0
  simp only [List.getElem?_toArray, List.getElem?_cons_zero] at g0
  generalize W0.iterAt b3 bl 1 = V0 at *
  go_wp2_with fail
  have HBF := Lib.hid ((Below.refl V0.heap.size V0).alloc (Nat.le_refl _) (.cells #[.int .i64 66] 3))
  refine (put_ints _ (b3 + 1) b1 [] 8 8 _ [66] (Q0.out.fresh HBF.out) (by rw [← Z0.out]; exact HBF.out.size) (Rt.lit V0 3 (ivals [66]) 1 rfl) rfl (by omega) (by simp) (by simp)).mono ?_
  rintro e V1 h
  have h1 := h.pre HBF.out (by rw [Z0.out]; omega)
  have E1 : Hid (Env V1 w.heap.size b1 b2 #[.slice A0 k0 c0, .slice A1 k1 c1, .slice A2 k2 c2, .slice A3 k3 c3, .slice A4 k4 c4, .int .i64 t0, .int .i64 t1, .int .i64 t2, .int .i64 t3, .int .i64 t4]) := by obtain ⟨cs, hg⟩ := Q0.out.row; exact E0.out.still h1.2.2.2 hg
  have I1 : Hid (V1.heap[b3]? = some (.stringIter bl 1)) := (h1.2.2.1.block b3 (by omega) (by omega)).trans I0.out
  have Z1 : Hid (b3 + 1 ≤ V1.heap.size) := by have := h1.2.2.1.size; rw [Z0.out] at this; exact this
  have L1 : Hid (Below w.heap.size w V1) := L0.out.trans ((h1.2.2.1.mono (show w.heap.size ≤ b3 + 1 by omega)).below (by omega))
  have Q1 := Lib.hid h1.2.1
  obtain ⟨rfl, -⟩ := h
  clear h1 x0 g0 E0 Q0 I0 L0 HS HE
  go_wp2_with fail
  rw [rounds_succ]
  have x1 := next1 V1 b3 I1.out
  have E2 := Lib.hid (E1.out.iter bl 2 (b3 := b3) ⟨by omega, by omega⟩)
  have Q2 := Lib.hid (Q1.out.iter I1.out 2)
  have I2 := Lib.hid (Lib.iterAt_heap V1 b3 bl 1 2 I1.out)
  have L2 := Lib.hid (Below.iter L1.out (show w.heap.size ≤ b3 by omega) bl 2)
  have Z2 : Hid (b3 + 1 ≤ (V1.iterAt b3 bl 2).heap.size) := by show _ ≤ _; rw [Lib.iterAt_size]; exact Z1.out
  have g1 := E2.out.var.cell 0
  simp only [List.getElem?_toArray, List.getElem?_cons_zero] at g1
  generalize V1.iterAt b3 bl 2 = V2 at *
  go_wp2_with fail
  have HBF2 := Lib.hid ((Below.refl V2.heap.size V2).alloc (Nat.le_refl _) (.cells #[.int .i64 76] 3))
  refine (put_ints _ (b3 + 1) b1 _ 8 8 _ [76] (Q2.out.fresh HBF2.out) (Nat.le_trans Z2.out HBF2.out.size) (Rt.lit V2 3 (ivals [76]) 1 rfl) rfl (by omega) (by simp [nbit_length]) (by simp)).mono ?_
  rintro e u0 h
  have h1 := h.pre HBF2.out Z2.out
  have EV0 : Hid (Env u0 w.heap.size b1 b2 #[.slice A0 k0 c0, .slice A1 k1 c1, .slice A2 k2 c2, .slice A3 k3 c3, .slice A4 k4 c4, .int .i64 t0, .int .i64 t1, .int .i64 t2, .int .i64 t3, .int .i64 t4]) := by obtain ⟨cs, hg⟩ := Q2.out.row; exact E2.out.still h1.2.2.2 hg
  have I3 : Hid (u0.heap[b3]? = some (.stringIter bl 2)) := (h1.2.2.1.block b3 (by omega) (by omega)).trans I2.out
  have HS : Hid (b3 + 1 ≤ u0.heap.size) := Nat.le_trans Z2.out h1.2.2.1.size
  have HB1 : Hid (Below w.heap.size w u0) := L2.out.trans ((h1.2.2.1.mono (show w.heap.size ≤ b3 + 1 by omega)).below (by omega))
  have LW : Hid (Wr u0 (b3 + 1) b1 (nbit 8 66 ++ nbit 8 76)) := by have := h1.2.1; simpa [Hid] using this
  have HK0 : Hid (Laid (b3 + 1) b1 (nbit 8 66 ++ nbit 8 76) u0 (.returned (.tuple #[])) u0) := ⟨rfl, LW.out, Kept.refl _ _ _, Still.refl _ _⟩
  have HS3 : Hid (w.heap.size ≤ b3 + 1) := by show _ ≤ _; omega
  have HS4 : Hid (w.heap.size ≤ b1) := by show _ ≤ _; omega
  obtain ⟨rfl, -⟩ := h
  clear h1 x1 g1 E1 Q1 I1 L1 Z1 E2 Q2 I2 L2 Z2 Z0 HBF HBF2
  go_wp2_with fail
  rw [rounds_succ]
  have x2 := next2 u0 b3 I3.out
  clear hb1 hb2 hb3
  have f1v := EV0.out.var.cell 0
  have f10 := EV0.out.box.cell 0
  simp only [List.getElem?_toArray, List.getElem?_cons_zero] at f1v f10
  go_wp2_with fail
  refine (putList_nodes u0 (b3 + 1) w.heap.size b1 b2 _ _ ps L.nodes HK0.out.2.1 (Nat.le_trans HS.out HK0.out.2.2.1.size) EV0.out.var (HD.out.n.mono (Nat.le_refl _) (fun a ha => (HK0.out.2.2.1.cellD HS3.out HS4.out a ha).trans (HB1.out.cell ha))) HD.out.f HM.out.node HS3.out HS4.out (by have h := HM.out.bits; unfold enc ebody at h; simp only [List.length_append, nbit_length] at *; omega) HM.out.nodes).mono ?_
  rintro e u1 h
  have HK1 := Lib.hid (HK0.out.seq h)
  obtain ⟨rfl, -⟩ := h
  have EV1 : Hid (Env u1 w.heap.size b1 b2 #[.slice A0 k0 c0, .slice A1 k1 c1, .slice A2 k2 c2, .slice A3 k3 c3, .slice A4 k4 c4, .int .i64 t0, .int .i64 t1, .int .i64 t2, .int .i64 t3, .int .i64 t4]) := by obtain ⟨cs, hg⟩ := LW.out.row; exact EV0.out.still HK1.out.2.2.2 hg
  clear f1v f10
  clear x2 I3
  have f2v := EV1.out.var.cell 0
  have f21 := EV1.out.box.cell 1
  simp only [List.getElem?_toArray, List.getElem?_cons_zero, List.getElem?_cons_succ] at f2v f21
  go_wp2_with fail
  refine (putList_secs u1 (b3 + 1) w.heap.size b1 b2 _ _ L.secs HK1.out.2.1 (Nat.le_trans HS.out HK1.out.2.2.1.size) EV1.out.var (HD.out.s.mono (Nat.le_refl _) (fun a ha => (HK1.out.2.2.1.cellD HS3.out HS4.out a ha).trans (HB1.out.cell ha))) HS3.out HS4.out (by have h := HM.out.bits; unfold enc ebody at h; simp only [List.length_append, nbit_length] at *; omega) HM.out.secs).mono ?_
  rintro e u2 h
  have HK2 := Lib.hid (HK1.out.seq h)
  obtain ⟨rfl, -⟩ := h
  have EV2 : Hid (Env u2 w.heap.size b1 b2 #[.slice A0 k0 c0, .slice A1 k1 c1, .slice A2 k2 c2, .slice A3 k3 c3, .slice A4 k4 c4, .int .i64 t0, .int .i64 t1, .int .i64 t2, .int .i64 t3, .int .i64 t4]) := by obtain ⟨cs, hg⟩ := LW.out.row; exact EV0.out.still HK2.out.2.2.2 hg
  clear f2v f21
  have f3v := EV2.out.var.cell 0
  have f32 := EV2.out.box.cell 2
  simp only [List.getElem?_toArray, List.getElem?_cons_zero, List.getElem?_cons_succ] at f3v f32
  go_wp2_with fail
  refine (putRows_any u2 (b3 + 1) w.heap.size b1 _ _ L.parts HK2.out.2.1 (Nat.le_trans HS.out HK2.out.2.2.1.size) (HD.out.p.mono (Nat.le_refl _) (fun a ha => (HK2.out.2.2.1.cellD HS3.out HS4.out a ha).trans (HB1.out.cell ha))) HM.out.part HS3.out HS4.out (by have h := HM.out.bits; unfold enc ebody at h; simp only [List.length_append, nbit_length] at *; omega) HM.out.parts).mono ?_
  rintro e u3 h
  have HK3 := Lib.hid (HK2.out.seq h)
  obtain ⟨rfl, -⟩ := h
  have EV3 : Hid (Env u3 w.heap.size b1 b2 #[.slice A0 k0 c0, .slice A1 k1 c1, .slice A2 k2 c2, .slice A3 k3 c3, .slice A4 k4 c4, .int .i64 t0, .int .i64 t1, .int .i64 t2, .int .i64 t3, .int .i64 t4]) := by obtain ⟨cs, hg⟩ := LW.out.row; exact EV0.out.still HK3.out.2.2.2 hg
  clear f3v f32
  have f4v := EV3.out.var.cell 0
  have f43 := EV3.out.box.cell 3
  simp only [List.getElem?_toArray, List.getElem?_cons_zero, List.getElem?_cons_succ] at f4v f43
  go_wp2_with fail
  refine (putList_points u3 (b3 + 1) w.heap.size b1 b2 _ _ L.points HK3.out.2.1 (Nat.le_trans HS.out HK3.out.2.2.1.size) EV3.out.var (HD.out.q.mono (Nat.le_refl _) (fun a ha => (HK3.out.2.2.1.cellD HS3.out HS4.out a ha).trans (HB1.out.cell ha))) HS3.out HS4.out (by have h := HM.out.bits; unfold enc ebody at h; simp only [List.length_append, nbit_length] at *; omega) HM.out.points).mono ?_
  rintro e u4 h
  have HK4 := Lib.hid (HK3.out.seq h)
  obtain ⟨rfl, -⟩ := h
  have EV4 : Hid (Env u4 w.heap.size b1 b2 #[.slice A0 k0 c0, .slice A1 k1 c1, .slice A2 k2 c2, .slice A3 k3 c3, .slice A4 k4 c4, .int .i64 t0, .int .i64 t1, .int .i64 t2, .int .i64 t3, .int .i64 t4]) := by obtain ⟨cs, hg⟩ := LW.out.row; exact EV0.out.still HK4.out.2.2.2 hg
  clear f4v f43
  have f5v := EV4.out.var.cell 0
  have f54 := EV4.out.box.cell 4
  simp only [List.getElem?_toArray, List.getElem?_cons_zero, List.getElem?_cons_succ] at f5v f54
  go_wp2_with fail
  refine (putRows_any u4 (b3 + 1) w.heap.size b1 _ _ L.routes HK4.out.2.1 (Nat.le_trans HS.out HK4.out.2.2.1.size) (HD.out.r.mono (Nat.le_refl _) (fun a ha => (HK4.out.2.2.1.cellD HS3.out HS4.out a ha).trans (HB1.out.cell ha))) HM.out.route HS3.out HS4.out (by have h := HM.out.bits; unfold enc ebody at h; simp only [List.length_append, nbit_length] at *; omega) HM.out.routes).mono ?_
  rintro e u5 h
  have HK5 := Lib.hid (HK4.out.seq h)
  obtain ⟨rfl, -⟩ := h
  have EV5 : Hid (Env u5 w.heap.size b1 b2 #[.slice A0 k0 c0, .slice A1 k1 c1, .slice A2 k2 c2, .slice A3 k3 c3, .slice A4 k4 c4, .int .i64 t0, .int .i64 t1, .int .i64 t2, .int .i64 t3, .int .i64 t4]) := by obtain ⟨cs, hg⟩ := LW.out.row; exact EV0.out.still HK5.out.2.2.2 hg
  clear f5v f54
  have f6v := EV5.out.var.cell 0
  have f65 := EV5.out.box.cell 5
  simp only [List.getElem?_toArray, List.getElem?_cons_zero, List.getElem?_cons_succ] at f6v f65
  have HBF6 := Lib.hid ((Below.refl u5.heap.size u5).alloc (Nat.le_refl _) (.cells #[.int .i64 t0] 3))
  go_wp2_with fail
  refine (put_ints _ (b3 + 1) b1 _ 16 16 _ [t0] (HK5.out.2.1.fresh HBF6.out) (Nat.le_trans (Nat.le_trans HS.out HK5.out.2.2.1.size) HBF6.out.size) (Rt.lit u5 3 (ivals [t0]) 1 rfl) rfl (by omega) (by have h := HM.out.bits; unfold enc ebody at h; simp only [List.length_append, nbit_length] at *; omega) (by simp)).mono ?_
  rintro e u6 h
  have HK6 := Lib.hid (HK5.out.seq (h.pre HBF6.out (Nat.le_trans HS.out HK5.out.2.2.1.size)))
  obtain ⟨rfl, -⟩ := h
  have EV6 : Hid (Env u6 w.heap.size b1 b2 #[.slice A0 k0 c0, .slice A1 k1 c1, .slice A2 k2 c2, .slice A3 k3 c3, .slice A4 k4 c4, .int .i64 t0, .int .i64 t1, .int .i64 t2, .int .i64 t3, .int .i64 t4]) := by obtain ⟨cs, hg⟩ := LW.out.row; exact EV0.out.still HK6.out.2.2.2 hg
  clear f6v f65
  have f7v := EV6.out.var.cell 0
  have f76 := EV6.out.box.cell 6
  have f77 := EV6.out.box.cell 7
  have f78 := EV6.out.box.cell 8
  have f79 := EV6.out.box.cell 9
  simp only [List.getElem?_toArray, List.getElem?_cons_zero, List.getElem?_cons_succ] at f7v f76 f77 f78 f79
  have HBF7 := Lib.hid ((Below.refl u6.heap.size u6).alloc (Nat.le_refl _) (.cells #[.int .i64 t1, .int .i64 t2, .int .i64 t3, .int .i64 t4] 2))
  go_wp2_with fail
  refine (put_longs _ (b3 + 1) b1 _ 16 16 _ [t1, t2, t3, t4] (HK6.out.2.1.fresh HBF7.out) (Nat.le_trans (Nat.le_trans HS.out HK6.out.2.2.1.size) HBF7.out.size) (Rt.lit u6 2 (ivals [t1, t2, t3, t4]) 4 rfl) rfl (by omega) (by have h := HM.out.bits; unfold enc ebody at h; simp only [List.length_append, nbit_length, flat_length, List.length_cons, List.length_nil] at *; omega) (by simp)).mono ?_
  rintro e u7 h
  have HK7 := Lib.hid (HK6.out.seq (h.pre HBF7.out (Nat.le_trans HS.out HK6.out.2.2.1.size)))
  obtain ⟨rfl, -⟩ := h
  have EV7 : Hid (Env u7 w.heap.size b1 b2 #[.slice A0 k0 c0, .slice A1 k1 c1, .slice A2 k2 c2, .slice A3 k3 c3, .slice A4 k4 c4, .int .i64 t0, .int .i64 t1, .int .i64 t2, .int .i64 t3, .int .i64 t4]) := by obtain ⟨cs, hg⟩ := LW.out.row; exact EV0.out.still HK7.out.2.2.2 hg
  clear f7v f76 f77 f78 f79
  have f8v := EV7.out.var.cell 0
  simp only [List.getElem?_toArray, List.getElem?_cons_zero] at f8v
  have HQ : Hid (Wr u7 (b3 + 1) b1 (enc L)) := by
    have h := HK7.out.2.1
    have e : nbit 8 66 ++ nbit 8 76 ++ elist enode L.nodes ++ elist esec L.secs ++ erows L.parts ++ elist epoint L.points ++ erows L.routes ++ List.flatMap (nbit 16) [t0] ++ List.flatMap (nbit 16) [t1, t2, t3, t4] = enc L := by
      unfold enc ebody; rw [HT.out]; simp [List.append_assoc]
    rw [e] at h; exact h
  have HB8 : Hid (Below w.heap.size w u7) := HB1.out.trans ((HK7.out.2.2.1.mono HS3.out).below HS4.out)
  go_wp2_with fail
  refine (bytes_some u7 (b3 + 1) b1 (enc L) HQ.out (by have := HM.out.bits; omega)).mono ?_
  rintro e u8 ⟨v8, rfl, ho8, hb8⟩
  have HO8 := Lib.hid (Rd.of_own ho8); have HB9 := Lib.hid (HB8.out.trans (hb8.mono HB8.out.size))
  clear ho8 hb8
  go_wp2_with fail
  refine (close_any u8 u8.heap.size v8 (pack (enc L)) HO8.out (Nat.le_refl _) (pack_small _) (by have := HM.out.bits; rw [pack_length]; unfold nb; omega)).mono ?_
  rintro e u9 ⟨v9, rfl, ho9, hb9⟩
  have HO9 := Lib.hid (own_base ho9 HB9.out.size); have HB10 := Lib.hid (HB9.out.trans (hb9.mono HB9.out.size))
  clear ho9 hb9
  go_wp2_with fail
  go_ret
  exact ⟨_, rfl, HO9.out, HB10.out⟩

end Go.Proofs.Ythpfhcelmddjlaa
