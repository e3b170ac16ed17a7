/- Contracts: the letters, and what is behind them, read. -/
import Derived.Test.YthpfhcelmddjlaaGetL
namespace Go.Proofs.Ythpfhcelmddjlaa
open Go.RowKit Fl
set_option maxRecDepth 100000

def okBL (s : St) : Bool := decide ((tget 8 s).1 = 66) && decide ((tget 8 (tget 8 s).2).1 = 76)

theorem KeptL.iter {S : List Nat} {a w : World} (h : KeptL S a w) {k : Nat} (hk : k ∈ S) (s : ByteArray) (p : Nat) : KeptL S a (w.iterAt k s p) :=
  h.trans ⟨rfl, rfl, rfl, by rw [Lib.iterAt_size]; exact Nat.le_refl _, fun i _ hn => Lib.iterAt_other w k i s p (by rintro rfl; exact hn hk)⟩

theorem RS.iter {w : World} {B g : Nat} {s : St} (h : RS w B g s) {k : Nat} {t : ByteArray} {p : Nat} (hk : w.heap[k]? = some (.stringIter t p)) (p' : Nat) : RS (w.iterAt k t p') B g s := by
  have key : ∀ (b : Nat) (cur : Array Value) (e : TypeId) (fr : Nat × Nat), w.heap[b]? = some (.cells cur e fr) → (w.iterAt k t p').heap[b]? = some (.cells cur e fr) := fun b cur e fr hb => by
    rw [Lib.iterAt_other _ _ _ _ _ (by rintro rfl; rw [hk] at hb; cases hb)]; exact hb
  have kr : ∀ q rd fl, Rr w B g q rd fl → Rr (w.iterAt k t p') B g q rd fl := by
    rintro q rd fl ⟨v, hr, h1, h2⟩
    refine ⟨v, key _ _ _ _ hr, h1, ?_⟩
    rcases h2 with h2 | ⟨r, cap, cur, rfl, hb, hh, rest⟩
    · exact Or.inl h2
    · exact Or.inr ⟨r, cap, cur, rfl, hb, key _ _ _ _ hh, rest⟩
  cases s with
  | none => exact kr _ _ _ h
  | some l => obtain ⟨q, rd, hr, rest⟩ := h; exact ⟨q, rd, kr _ _ _ hr, rest⟩

set_option maxHeartbeats 2000000 in
theorem getLetters_any (w : World) (B g : Nat) (s : St) (h : RS w B g s) :
    Calls Try.prog 35 #[.pointer (some ⟨g, 0, none⟩)] w fun e w' => e = .returned (.bool (okBL s)) ∧ (okBL s = true → RS w' B g (tget 8 (tget 8 s).2).2) ∧ KeptL [g] w w' := by
  have hI := World.iter_heap w bl 0
  have hb : Below w.heap.size w (w.iter bl 0) := (Below.refl _ _).alloc (Nat.le_refl _) _
  have H := Lib.hid (h.fresh hb); have HI := Lib.hid hI
  have HK0 : Hid (KeptL [w.heap.size, g] w (w.iter bl 0)) := KeptL.of_below hb
  have HGN : Hid (g < w.heap.size) := by obtain ⟨cs, hg⟩ := h.row; exact hg.lt
  clear h hI hb
  go_enter Try.func35, Try.ntmps35
  go_wp2_with fail
  generalize w.iter { data := #[66, 76] } 0 = W0 at *
  obtain ⟨k0, hk0⟩ : ∃ k, k = w.heap.size := ⟨_, rfl⟩
  rw [← hk0] at HI HK0 HGN ⊢
  have HKK := Lib.hid hk0; clear hk0
  refine wp_loop_rounds 3 ?_
  rw [rounds_succ]
  have x0 := next0 W0 k0 HI.out
  have Q0 := Lib.hid (H.out.iter HI.out 1)
  have I0 := Lib.hid (Lib.iterAt_heap W0 k0 bl 0 1 HI.out)
  have L0 := Lib.hid (HK0.out.iter (k := k0) (by simp) bl 1)
  generalize W0.iterAt k0 bl 1 = V0 at *
  go_wp2_with fail
  refine (rget_any V0 B g s 8 8 Q0.out rfl (by omega) (by omega)).mono ?_
  rintro e V1 ⟨rfl, h1, k1⟩
  have HK1 := Lib.hid (L0.out.trans (k1.mono in2'))
  have I1 : Hid (V1.heap[k0]? = some (.stringIter bl 1)) := (k1.block k0 (heap_lt I0.out) (by have := HGN.out; simp; omega)).trans I0.out
  have H1 := Lib.hid h1
  have HOK : Hid (okBL s = (decide ((tget 8 s).1 = 66) && decide ((tget 8 (tget 8 s).2).1 = 76))) := rfl
  have hlt := tget_lt 8 s
  clear h1 k1 x0
  by_cases hB : (tget 8 s).1 = 66
  · rw [hB]
    go_wp2_with fail
    rw [rounds_succ]
    have x1 := next1 V1 k0 I1.out
    have Q1 := Lib.hid (H1.out.iter I1.out 2)
    have I2 := Lib.hid (Lib.iterAt_heap V1 k0 bl 1 2 I1.out)
    have L1 := Lib.hid (HK1.out.iter (k := k0) (by simp) bl 2)
    generalize V1.iterAt k0 bl 2 = V2 at *
    go_wp2_with fail
    refine (rget_any V2 B g _ 8 8 Q1.out rfl (by omega) (by omega)).mono ?_
    rintro e V3 ⟨rfl, h1, k1⟩
    have HK3 := Lib.hid (L1.out.trans (k1.mono in2'))
    have I3 : Hid (V3.heap[k0]? = some (.stringIter bl 2)) := (k1.block k0 (heap_lt I2.out) (by have := HGN.out; simp; omega)).trans I2.out
    have H3 := Lib.hid h1
    have hlt2 := tget_lt 8 (tget 8 s).2
    clear h1 k1 x1
    by_cases hL : (tget 8 (tget 8 s).2).1 = 76
    · have HT : Hid (okBL s = true) := by show _ = _; rw [HOK.out, hB, hL]; rfl
      rw [hL]
      go_wp2_with fail
      rw [rounds_succ]
      have x2 := next2 V3 k0 I3.out
      go_wp2_with fail
      go_ret
      refine ⟨ret_bool HT.out.symm, fun _ => H3.out, HK3.out.fresh (by rw [HKK.out]; exact Nat.le_refl _)⟩
    · have HT : Hid (okBL s = false) := by show _ = _; rw [HOK.out, decide_eq_false hL]; simp
      have HT2 : Hid (okBL s ≠ true) := by show _ ≠ _; rw [HT.out]; simp
      generalize (tget 8 (tget 8 s).2).1 = m at *
      have hne : ((m : Int) == 76) = false := by simp; omega
      go_wp2_with fail
      go_ret
      exact ⟨ret_bool HT.out.symm, fun h => absurd h HT2.out, HK3.out.fresh (by rw [HKK.out]; exact Nat.le_refl _)⟩
  · have HT : Hid (okBL s = false) := by show _ = _; rw [HOK.out, decide_eq_false hB]; rfl
    have HT2 : Hid (okBL s ≠ true) := by show _ ≠ _; rw [HT.out]; simp
    obtain ⟨m, hm⟩ : ∃ m, (tget 8 s).1 = m := ⟨_, rfl⟩
    rw [hm] at hB hlt ⊢
    clear hm
    have hne : ((m : Int) == 66) = false := by simp; omega
    go_wp2_with fail
    go_ret
    exact ⟨ret_bool HT.out.symm, fun h => absurd h HT2.out, HK1.out.fresh (by rw [HKK.out]; exact Nat.le_refl _)⟩

theorem IsNodes.kept {w w' : World} {v : Value} {zs : List (Int × Int)} {S : List Nat} (h : IsNodes w v zs) (hk : KeptL S w w') (ho : Other w 47 S) : IsNodes w' v zs := by
  obtain ⟨ps, h1, h2⟩ := h; exact ⟨ps, h1.kept hk ho, h2⟩
theorem IsRows.kept {w w' : World} {v : Value} {zs : List (List Int)} {S : List Nat} (h : IsRows w v zs) (hk : KeptL S w w') (ho : Other w 51 S) (ho3 : Other w 3 S) : IsRows w' v zs := by
  obtain ⟨vs, h1, h2, h3⟩ := h; exact ⟨vs, h1.kept hk ho, h2, fun i a b => (h3 i a b).kept hk ho3⟩
theorem IsSecs.kept {w w' : World} {v : Value} {zs : List (Int × Int × Int)} {S : List Nat} (h : IsSecs w v zs) (hk : KeptL S w w') (ho : Other w 50 S) : IsSecs w' v zs := by
  obtain ⟨A, c, hv, hx⟩ := h
  refine ⟨A, c, hv, fun hp => ?_⟩
  obtain ⟨b, cur, fr, hA, hh, hc⟩ := hx hp
  exact ⟨b, cur, fr, hA, (hk.block b (heap_lt hh) (ho.ne hh)).trans hh, hc⟩
theorem IsPoints.kept {w w' : World} {v : Value} {zs : List (Int × Int × Int × Int)} {S : List Nat} (h : IsPoints w v zs) (hk : KeptL S w w') (ho : Other w 53 S) : IsPoints w' v zs := by
  obtain ⟨A, c, hv, hx⟩ := h
  refine ⟨A, c, hv, fun hp => ?_⟩
  obtain ⟨b, cur, fr, hA, hh, hc⟩ := hx hp
  exact ⟨b, cur, fr, hA, (hk.block b (heap_lt hh) (ho.ne hh)).trans hh, hc⟩

theorem IsNodes.slice {w : World} {v : Value} {zs : List (Int × Int)} (h : IsNodes w v zs) : ∃ A c, v = .slice A zs.length c := by
  obtain ⟨ps, ⟨A, c, hv, _⟩, hf⟩ := h; exact ⟨A, c, by rw [hv, nvals_length, hf.1]⟩
theorem IsRows.slice {w : World} {v : Value} {zs : List (List Int)} (h : IsRows w v zs) : ∃ A c, v = .slice A zs.length c := by
  obtain ⟨vs, ⟨A, c, hv, _⟩, hl, _⟩ := h; exact ⟨A, c, by rw [hv, hl]⟩
theorem IsSecs.slice {w : World} {v : Value} {zs : List (Int × Int × Int)} (h : IsSecs w v zs) : ∃ A c, v = .slice A zs.length c := by
  obtain ⟨A, c, hv, _⟩ := h; exact ⟨A, c, hv⟩
theorem IsPoints.slice {w : World} {v : Value} {zs : List (Int × Int × Int × Int)} (h : IsPoints w v zs) : ∃ A c, v = .slice A zs.length c := by
  obtain ⟨A, c, hv, _⟩ := h; exact ⟨A, c, hv⟩

/-- What five slices hold that were read. -/
structure Five (w : World) (vN vS vP vQ vR : Value) (L : Lay) : Prop where
  n : IsNodes w vN L.nodes
  s : IsSecs w vS L.secs
  p : IsRows w vP L.parts
  q : IsPoints w vQ L.points
  r : IsRows w vR L.routes

theorem Five.kept {w w' : World} {vN vS vP vQ vR : Value} {L : Lay} {S : List Nat} (h : Five w vN vS vP vQ vR L) (hk : KeptL S w w') (ho : ∀ t ∈ [47, 50, 51, 53, 3], Other w t S) : Five w' vN vS vP vQ vR L :=
  ⟨h.n.kept hk (ho 47 (by simp)), h.s.kept hk (ho 50 (by simp)), h.p.kept hk (ho 51 (by simp)) (ho 3 (by simp)), h.q.kept hk (ho 53 (by simp)), h.r.kept hk (ho 51 (by simp)) (ho 3 (by simp))⟩

def IsLay (w : World) (v : Value) (L : Lay) : Prop :=
  ∃ vN vS vP vQ vR, v = .agg #[vN, vS, vP, vQ, vR, .int .i64 L.speed, .int .i64 L.mute, .int .i64 L.wait, .int .i64 L.cancel, .int .i64 L.stay] ∧ Five w vN vS vP vQ vR L

theorem IsRows.at {w : World} {v : Value} {zs : List (List Int)} (h : IsRows w v zs) : RowsAt w w.heap.size v zs := by
  obtain ⟨vs, h1, h2, h3⟩ := h
  exact ⟨vs, h1.rd, h2, fun i a b => (h3 i a b).rd⟩
theorem IsSecs.at {w : World} {v : Value} {zs : List (Int × Int × Int)} (h : IsSecs w v zs) : Secs w w.heap.size v zs := by
  obtain ⟨A, c, hv, hx⟩ := h
  refine ⟨A, c, hv, fun hp => ?_⟩
  obtain ⟨b, cur, fr, hA, hh, hc⟩ := hx hp
  refine ⟨b, 0, hA, heap_lt hh, fun j hj => ?_⟩
  obtain ⟨a1, a2, a3⟩ := hc j hj
  simp only [Nat.zero_add]
  exact ⟨by simp [World.cell?, hh, a1], by simp [World.cell?, hh, a2], by simp [World.cell?, hh, a3]⟩
theorem IsPoints.at {w : World} {v : Value} {zs : List (Int × Int × Int × Int)} (h : IsPoints w v zs) : Pts w w.heap.size v zs := by
  obtain ⟨A, c, hv, hx⟩ := h
  refine ⟨A, c, hv, fun hp => ?_⟩
  obtain ⟨b, cur, fr, hA, hh, hc⟩ := hx hp
  refine ⟨b, 0, hA, heap_lt hh, fun j hj => ?_⟩
  obtain ⟨a1, a2, a3, a4⟩ := hc j hj
  simp only [Nat.zero_add]
  exact ⟨by simp [World.cell?, hh, a1], by simp [World.cell?, hh, a2], by simp [World.cell?, hh, a3], by simp [World.cell?, hh, a4]⟩

theorem IsLay.v {w : World} {v : Value} {L : Lay} (h : IsLay w v L) : LayV w w.heap.size v L := by
  obtain ⟨a, b, c, d, e, hv, hf⟩ := h
  obtain ⟨ps, h1, h2⟩ := hf.n
  exact ⟨a, b, c, d, e, ps, hv, ⟨h1.rd, h2, hf.s.at, hf.p.at, hf.q.at, hf.r.at⟩⟩

theorem other_of {w : World} {g k : Nat} {c1 c2 : Array Value} (hg : Row w g 99 c1) (hk : Row w k 33 c2) : ∀ t ∈ [47, 50, 51, 53, 3], Other w t [g, k] := by
  intro t ht
  simp only [List.mem_cons, List.not_mem_nil, or_false] at ht
  rcases ht with rfl | rfl | rfl | rfl | rfl <;> exact Other.two hg (by decide) hk (by decide)
theorem other_one {w : World} {k : Nat} {c2 : Array Value} (hk : Row w k 33 c2) : ∀ t ∈ [47, 50, 51, 53, 3], Other w t [k] := by
  intro t ht
  simp only [List.mem_cons, List.not_mem_nil, or_false] at ht
  rcases ht with rfl | rfl | rfl | rfl | rfl <;> exact Other.one hk (by decide)


end Go.Proofs.Ythpfhcelmddjlaa
