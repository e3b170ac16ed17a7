/- Contracts: the example that every law asks first; what any bytes are, held against the document. -/
import Derived.Test.YthpfhcelmddjlaaDecMath
import Derived.Test.YthpfhcelmddjlaaRefSame
namespace Go.Proofs.Ythpfhcelmddjlaa
open Go.RowKit Fl
set_option maxRecDepth 100000

def L7 : Lay := ⟨[], [], [], [], [], 7, 0, 0, 0, 0⟩

theorem lay7 (w : World) (D : Nat) : LayV w D (.agg #[.slice none 0 0, .slice none 0 0, .slice none 0 0, .slice none 0 0, .slice none 0 0, .int .i64 7, .int .i64 0, .int .i64 0, .int .i64 0, .int .i64 0]) L7 :=
  ⟨_, _, _, _, _, [], rfl, ⟨Rd.empty _ _, ⟨rfl, fun i h1 _ => absurd h1 (by simp)⟩, ⟨_, 0, rfl, fun h => absurd h (by simp [L7])⟩, ⟨[], Rd.empty _ _, rfl, fun i h1 _ => absurd h1 (by simp)⟩, ⟨_, 0, rfl, fun h => absurd h (by simp [L7])⟩, ⟨[], Rd.empty _ _, rfl, fun i h1 _ => absurd h1 (by simp)⟩⟩⟩

theorem room7 : Room L7 := ⟨by decide, by decide, by decide, by decide, by decide, (fun r h => by simp [L7] at h), (fun r h => by simp [L7] at h), (fun r h => by simp [L7] at h)⟩
theorem modest7 : Modest L7 := ⟨by decide, by decide, by decide, by decide, by decide, (fun r h => by simp [L7] at h), (fun r h => by simp [L7] at h), (fun r h => by simp [L7] at h), by simp [L7, enc, ebody, elist, erows, etimes, nbit_length]⟩
theorem lows7 : lows L7 = L7 := by
  apply lows_id
  · intro s h; simp [L7] at h
  · intro s h; simp [L7] at h
  · intro s h; simp [L7] at h
  · intro s h; simp [L7] at h
  · simp [L7]

theorem LayV.agg {w : World} {D : Nat} {v : Value} {L : Lay} (h : LayV w D v L) : ∃ A0 k0 c0 A1 k1 c1 A2 k2 c2 A3 k3 c3 A4 k4 c4, v = .agg #[.slice A0 k0 c0, .slice A1 k1 c1, .slice A2 k2 c2, .slice A3 k3 c3, .slice A4 k4 c4, .int .i64 L.speed, .int .i64 L.mute, .int .i64 L.wait, .int .i64 L.cancel, .int .i64 L.stay] := by
  obtain ⟨vN, vS, vP, vQ, vR, ps, hv, hd⟩ := h
  obtain ⟨⟨A0, c0, rfl⟩, ⟨A1, c1, rfl⟩, ⟨A2, c2, rfl⟩, ⟨A3, c3, rfl⟩, ⟨A4, c4, rfl⟩⟩ := hd.slices
  exact ⟨_, _, _, _, _, _, _, _, _, _, _, _, _, _, _, hv⟩

theorem len7 : (closed (pack (enc L7))).length ≤ 4000 := by
  rw [closed_length, pack_length]
  have : (enc L7).length ≤ 1000 := by simp [L7, enc, ebody, elist, erows, etimes, nbit_length]
  unfold nb; omega

theorem Modest.few {L : Lay} (h : Modest L) : Few L := ⟨h.nodes, h.secs, h.parts, h.points, h.routes, h.part, h.route⟩

theorem many_rows (n : Nat) (s : St) : ∀ r ∈ (tmany trow n s).1, r.length ≤ 255 := by
  induction n with
  | zero => intro r h; simp [tmany] at h
  | succ n ih =>
    intro r h
    have e : (tmany trow (n + 1) s).1 = (tmany trow n s).1 ++ [(trow (tmany trow n s).2).1] := rfl
    rw [e, List.mem_append, List.mem_singleton] at h
    rcases h with h | h
    · exact ih r h
    · rw [h, trow_eq, tmany_length]
      have := tget_lt 8 (tmany trow n s).2
      omega

theorem few_tlay (s : St) : Few (tlay s).1 := by
  rw [tlay_eq s _ _ _ _ _ rfl rfl rfl rfl rfl]
  have k : ∀ s : St, (tget 8 s).1 ≤ 255 := fun s => by have := tget_lt 8 s; omega
  refine ⟨?_, ?_, ?_, ?_, ?_, ?_, ?_⟩
  · show (tlist tnode _).1.length ≤ 1000; rw [tlist_eq, tmany_length]; exact Nat.le_trans (k _) (by omega)
  · show (tlist tsec _).1.length ≤ 1000; rw [tlist_eq, tmany_length]; exact Nat.le_trans (k _) (by omega)
  · show (trows _).1.length ≤ 1000; rw [trows_eq, tmany_length]; exact Nat.le_trans (k _) (by omega)
  · show (tlist tpoint _).1.length ≤ 1000; rw [tlist_eq, tmany_length]; exact Nat.le_trans (k _) (by omega)
  · show (trows _).1.length ≤ 1000; rw [trows_eq, tmany_length]; exact Nat.le_trans (k _) (by omega)
  · intro r hr; have h : r ∈ (trows _).1 := hr; rw [trows_eq] at h; exact Nat.le_trans (many_rows _ _ r h) (by omega)
  · intro r hr; have h : r ∈ (trows _).1 := hr; rw [trows_eq] at h; exact Nat.le_trans (many_rows _ _ r h) (by omega)

theorem few0 : Few L0 := ⟨by decide, by decide, by decide, by decide, by decide, (fun r h => by simp [L0] at h), (fun r h => by simp [L0] at h)⟩

theorem few_dec (q : List Nat) : Few (dec q).1 := by
  unfold dec
  split
  · exact few0
  · split
    · exact few0
    · split
      · exact few0
      · unfold fin
        split
        · exact few0
        · split
          · exact few0
          · exact few_tlay _

set_option maxHeartbeats 4000000 in
theorem bare_any (w : World) : Calls Try.prog 9 #[] w (RetL true w) := by
  have hd0 : dec [] = (L0, 4) := rfl
  have hd7 : dec (closed (pack (enc L7))) = (L7, 0) := by rw [dec_enc L7 room7, lows7]
  have HD0 := Lib.hid hd0; have HD7 := Lib.hid hd7
  clear hd0 hd7
  go_enter Try.func9, Try.ntmps9
  go_wp2_with fail
  refine (decode_any w _ [] (Rd.empty _ _) (by simp) (by simp)).mono ?_
  rintro e w1 ⟨v1, rfl, hv1, hb1⟩
  rw [HD0.out] at hv1 ⊢
  obtain ⟨A0, k0, c0, A1, k1, c1, A2, k2, c2, A3, k3, c3, A4, k4, c4, rfl⟩ := hv1.agg
  simp only [L0]
  have HB1 := Lib.hid hb1
  clear hb1 hv1
  generalize hx1 : Obj.cells #[.slice A0 k0 c0, .slice A1 k1 c1, .slice A2 k2 c2, .slice A3 k3 c3, .slice A4 k4 c4, .int .i64 0, .int .i64 0, .int .i64 0, .int .i64 0, .int .i64 0] 33 = O1 at *
  have HB2 : Hid (Below w.heap.size w (w1.alloc O1)) := HB1.out.alloc HB1.out.size O1
  subst hx1
  go_upto_region 2 with (fail)
  generalize w1.alloc (.cells #[.slice A0 k0 c0, .slice A1 k1 c1, .slice A2 k2 c2, .slice A3 k3 c3, .slice A4 k4 c4, .int .i64 0, .int .i64 0, .int .i64 0, .int .i64 0, .int .i64 0] 33) = w2 at *
  go_wp2_with fail
  refine (encode_any w2 _ L7 (lay7 _ _) modest7).mono ?_
  rintro e w3 ⟨v3, rfl, ho3, hb3⟩
  have HR3 := Lib.hid (Rd.of_own ho3)
  have HB3 := Lib.hid (HB2.out.trans (hb3.mono HB2.out.size))
  clear ho3 hb3
  go_wp2_with fail
  refine (decode_any w3 v3 (closed (pack (enc L7))) HR3.out (closed_small (pack_small _)) len7).mono ?_
  rintro e w4 ⟨v4, rfl, hv4, hb4⟩
  rw [HD7.out] at hv4 ⊢
  have HB4 := Lib.hid (HB3.out.trans (hb4.mono HB3.out.size))
  obtain ⟨B0, j0, d0, B1, j1, d1, B2, j2, d2, B3, j3, d3, B4, j4, d4, rfl⟩ := hv4.agg
  simp only [L7]
  clear hb4 hv4
  have HB5 := Lib.hid (HB4.out.alloc HB4.out.size (.cells #[.slice B0 j0 d0, .slice B1 j1 d1, .slice B2 j2 d2, .slice B3 j3 d3, .slice B4 j4 d4, .int .i64 7, .int .i64 0, .int .i64 0, .int .i64 0, .int .i64 0] 33))
  go_wp2_with fail
  go_ret
  exact ⟨rfl, HB5.out⟩

set_option maxHeartbeats 4000000 in
theorem reads_any (w : World) (v : Value) (q : List Nat) (h : Rd w w.heap.size v (bvals q)) (hq : ∀ x ∈ q, x < 256) (hl : q.length ≤ 4000) : Calls Try.prog 18 #[v] w (RetL true w) := by
  have HV := Lib.hid h; have HQ := Lib.hid hq; have HM := Lib.hid (few_dec q)
  clear h hq
  obtain ⟨L, hL⟩ : ∃ L, (dec q).1 = L := ⟨_, rfl⟩
  obtain ⟨E, hE⟩ : ∃ E, (dec q).2 = E := ⟨_, rfl⟩
  have HLE : Hid (dec q = (L, E)) := by show _ = _; rw [← hL, ← hE]
  rw [hL] at HM
  clear hL hE
  go_enter Try.func18, Try.ntmps18
  go_wp2_with fail
  refine (decode_any w v q HV.out HQ.out hl).mono ?_
  rintro e w1 ⟨v1, rfl, hv1, hb1⟩
  rw [HLE.out] at hv1 ⊢
  have HB1 := Lib.hid hb1
  have HV1 := Lib.hid hv1
  obtain ⟨A0, k0, c0, A1, k1, c1, A2, k2, c2, A3, k3, c3, A4, k4, c4, rfl⟩ := hv1.agg
  clear hb1 hv1
  generalize L.speed = t0 at *
  generalize L.mute = t1 at *
  generalize L.wait = t2 at *
  generalize L.cancel = t3 at *
  generalize L.stay = t4 at *
  have hb2 := (Below.refl w1.heap.size w1).alloc (Nat.le_refl _) (.cells #[.slice A0 k0 c0, .slice A1 k1 c1, .slice A2 k2 c2, .slice A3 k3 c3, .slice A4 k4 c4, .int .i64 t0, .int .i64 t1, .int .i64 t2, .int .i64 t3, .int .i64 t4] 33)
  have HB2 := Lib.hid (HB1.out.trans (hb2.mono HB1.out.size))
  have HV2 := Lib.hid (HV1.out.up hb2)
  have HR2 := Lib.hid (Row.new w1 33 #[.slice A0 k0 c0, .slice A1 k1 c1, .slice A2 k2 c2, .slice A3 k3 c3, .slice A4 k4 c4, .int .i64 t0, .int .i64 t1, .int .i64 t2, .int .i64 t3, .int .i64 t4])
  clear hb2
  go_upto_region 2 with (fail)
  obtain ⟨n3, hn3⟩ : ∃ n, n = w1.heap.size := ⟨_, rfl⟩
  rw [← hn3] at HR2 ⊢
  clear hn3
  generalize w1.alloc (.cells #[.slice A0 k0 c0, .slice A1 k1 c1, .slice A2 k2 c2, .slice A3 k3 c3, .slice A4 k4 c4, .int .i64 t0, .int .i64 t1, .int .i64 t2, .int .i64 t3, .int .i64 t4] 33) = w2 at *
  go_wp2_with fail
  refine (refDecode_any w2 v q (HV.out.up HB2.out) HQ.out hl).mono ?_
  rintro e w3 ⟨v3, rfl, hv3, hb3⟩
  rw [HLE.out] at hv3 ⊢
  have HB3 := Lib.hid (HB2.out.trans (hb3.mono HB2.out.size))
  have HV13 := Lib.hid (HV2.out.up hb3)
  have HR3 := Lib.hid (Below.row hb3 HR2.out HR2.out.lt)
  have HV3 := Lib.hid hv3
  obtain ⟨B0, j0, d0, B1, j1, d1, B2, j2, d2, B3, j3, d3, B4, j4, d4, rfl⟩ := hv3.agg
  clear hb3 hv3
  generalize L.speed = s0 at *
  generalize L.mute = s1 at *
  generalize L.wait = s2 at *
  generalize L.cancel = s3 at *
  generalize L.stay = s4 at *
  have hb4 := (Below.refl w3.heap.size w3).alloc (Nat.le_refl _) (.cells #[.slice B0 j0 d0, .slice B1 j1 d1, .slice B2 j2 d2, .slice B3 j3 d3, .slice B4 j4 d4, .int .i64 s0, .int .i64 s1, .int .i64 s2, .int .i64 s3, .int .i64 s4] 33)
  have HB4 := Lib.hid (HB3.out.trans (hb4.mono HB3.out.size))
  have HV14 := Lib.hid (HV13.out.up hb4)
  have HV34 := Lib.hid (HV3.out.up hb4)
  have r3 := HR3.out.alloc (.cells #[.slice B0 j0 d0, .slice B1 j1 d1, .slice B2 j2 d2, .slice B3 j3 d3, .slice B4 j4 d4, .int .i64 s0, .int .i64 s1, .int .i64 s2, .int .i64 s3, .int .i64 s4] 33)
  have f0 := r3.cell 0; have f1 := r3.cell 1; have f2 := r3.cell 2; have f3 := r3.cell 3; have f4 := r3.cell 4; have f5 := r3.cell 5; have f6 := r3.cell 6; have f7 := r3.cell 7; have f8 := r3.cell 8; have f9 := r3.cell 9
  simp only [List.getElem?_toArray, List.getElem?_cons_zero, List.getElem?_cons_succ] at f0 f1 f2 f3 f4 f5 f6 f7 f8 f9
  clear hb4 r3
  go_wp2_with fail
  refine (refSame_any _ _ _ L L HV14.out HV34.out HM.out).mono ?_
  rintro e w5 ⟨rfl, hb5⟩
  rw [decide_eq_true (alike_refl L)]
  have HB5 := Lib.hid (HB4.out.trans (hb5.mono HB4.out.size))
  clear hb5
  go_wp2_with fail
  go_ret
  exact ⟨rfl, HB5.out⟩

end Go.Proofs.Ythpfhcelmddjlaa
