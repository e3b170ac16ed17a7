/- Contract of state: Of. -/
import Derived.Test.YtblbbdkpebacbaaDoorA3
import Derived.Test.YtblbbdkpebacbaaDoorBy
namespace Go.Proofs.YtblbbdkpebacbaaDoor
open Go.RowKit Fl
set_option maxRecDepth 100000

theorem partL_small (ps : List (List Int)) (s : Int) : partL ps s < (ps.length : Int) := by
  unfold partL
  cases e : ps.findIdx? (fun p => p.contains s) with
  | none => simp only; omega
  | some i =>
    rw [List.findIdx?_eq_some_iff_getElem] at e
    obtain ⟨hi, _⟩ := e
    simp only; omega
theorem whoS_owner {L : Lay} {own : List Int} (hl : own.length = L.parts.length) (s : Int) :
    (if 0 ≤ partL L.parts s ∧ partL L.parts s < (own.length : Int) then own.getD (partL L.parts s).toNat 0 else -1) = whoS L own s := by
  have := partL_small L.parts s
  unfold whoS
  by_cases h : 0 ≤ partL L.parts s
  · rw [if_pos ⟨h, by omega⟩, if_pos h]
  · rw [if_neg (fun e => h e.1), if_neg h]
theorem whoS_ok {L : Lay} {own : List Int} (h : OkO own) (s : Int) : -2 ≤ whoS L own s ∧ whoS L own s ≤ 4611686018427387904 := by
  unfold whoS
  split
  · exact h.getD _
  · omega

theorem bvals_set (l : List Nat) (q : Nat) (b : Nat) : (bvals l).toArray.setIfInBounds q (.int .u8 (b : Int)) = (bvals (l.set q b)).toArray := by
  simp [bvals, List.map_set]
theorem made_bytes (n : Nat) : madeCells (Value.int .u8 0).cells (n * 1) = (bvals (List.replicate n 0)).toArray := by
  apply Array.ext
  · simp [madeCells, bvals]
  · intro i h1 h2
    simp [madeCells, bvals, Value.cells, Nat.mod_one]
theorem make_bytes (n : Nat) (hn : n ≤ 1000) (w : World) :
    (Instr.makeSlice 26 (.int .i64 (n : Int)) (.int .i64 (n : Int))).run Tryd.prog w = .ok (.slice (some ⟨w.heap.size, 0, none⟩) n n) (w.alloc (.cells (bvals (List.replicate n 0)).toArray 5)) := by
  obtain ⟨i0, hi, hz0, hz1, hz2⟩ := info_parts Tryd.info5
  have h := run_make (P := Tryd.prog) w 26 5 i0 (.int .u8 0) Tryd.underlying26 hi hz0 .i64 .i64 (n : Int) (n : Int) (by omega) (Int.le_refl _) (by rw [hz2]; omega) (by omega)
  rw [hz1, Int.toNat_natCast, made_bytes] at h
  exact h

/-- The first ones told, the others not yet. -/
def mixB (f : Nat → Nat) (n i : Nat) : List Nat := (List.range n).map fun j => if j < i then f j else 0
theorem mixB_len (f : Nat → Nat) (n i : Nat) : (mixB f n i).length = n := by simp [mixB]
theorem mixB_zero (f : Nat → Nat) (n : Nat) : mixB f n 0 = List.replicate n 0 := by
  apply List.ext_getElem
  · simp [mixB]
  · intro i h1 h2; simp [mixB]
theorem mixB_set (f : Nat → Nat) (n i : Nat) : (mixB f n i).set i (f i) = mixB f n (i + 1) := by
  apply List.ext_getElem
  · simp [mixB]
  · intro j h1 h2
    rw [List.getElem_set]
    by_cases e : i = j
    · subst e; simp [mixB]
    · rw [if_neg e]
      simp only [mixB, List.getElem_map, List.getElem_range]
      by_cases h : j < i
      · rw [if_pos h, if_pos (by omega)]
      · rw [if_neg h, if_neg (by omega)]
theorem mixB_full (f : Nat → Nat) (n : Nat) : mixB f n n = (List.range n).map f := by
  apply List.ext_getElem
  · simp [mixB]
  · intro j h1 h2
    have : j < n := by simpa [mixB] using h1
    simp [mixB, this]

/-- What Of's walk keeps. -/
structure OfSt (w : World) (B0 D BA n : Nat) (vg vo vv : Value) (L : Lay) (own : List Int) (ps : List Vw) (f : Nat → Nat) (i : Nat) (W : World) : Prop where
  bel : Below B0 w W
  row : Row W BA 5 (bvals (mixB f n i)).toArray
  gr : IsGr W D vg L
  ro : Rd W D vo (ivals own)
  rv : Vws W D vv ps
theorem OfSt.lt {w : World} {B0 D BA n : Nat} {vg vo vv : Value} {L : Lay} {own : List Int} {ps : List Vw} {f : Nat → Nat} {i : Nat} {W : World} (h : OfSt w B0 D BA n vg vo vv L own ps f i W) : BA < W.heap.size := h.row.lt
theorem OfSt.call {w : World} {B0 D BA n : Nat} {vg vo vv : Value} {L : Lay} {own : List Int} {ps : List Vw} {f : Nat → Nat} {i : Nat} {W W' : World} (h : OfSt w B0 D BA n vg vo vv L own ps f i W) (hb : Below W.heap.size W W') (hB : B0 ≤ D) (hD : D ≤ BA) : OfSt w B0 D BA n vg vo vv L own ps f i W' :=
  have := h.lt
  ⟨h.bel.trans (hb.mono (by omega)), Below.row hb h.row this, h.gr.keep hb (by omega), h.ro.below hb (by omega), h.rv.below hb (by omega)⟩
theorem OfSt.put {w : World} {B0 D BA n : Nat} {vg vo vv : Value} {L : Lay} {own : List Int} {ps : List Vw} {f : Nat → Nat} {i : Nat} {W : World} (h : OfSt w B0 D BA n vg vo vv L own ps f i W) (hB : B0 ≤ D) (hD : D ≤ BA) : OfSt w B0 D BA n vg vo vv L own ps f (i + 1) (W.setCell ⟨BA, i, none⟩ (.int .u8 (f i : Int))) := by
  have hb : Below D W (W.setCell ⟨BA, i, none⟩ (.int .u8 (f i : Int))) := (Below.refl D W).setCell (p := ⟨BA, i, none⟩) hD _
  refine ⟨h.bel.trans (hb.mono hB), ?_, h.gr.keep hb (Nat.le_refl _), h.ro.below hb (Nat.le_refl _), h.rv.below hb (Nat.le_refl _)⟩
  have hr := h.row.set i (.int .u8 (f i : Int))
  rw [bvals_set, mixB_set] at hr
  exact hr

set_option maxHeartbeats 4000000 in
theorem of_any (w : World) (v vo vv : Value) (L : Lay) (own : List Int) (ps : List Vw) (hlay : LayV w w.heap.size v L) (hL : Fits L) (ho : Rd w w.heap.size vo (ivals own)) (hol : own.length = L.parts.length) (hok : OkO own) (hv : Vws w w.heap.size vv ps) (hps : OkV ps) :
    Calls Tryd.prog 16 #[v, vo, vv] w (RetBytes (ofO L own ps) w) := by
  obtain ⟨A0, k0, c0, A1, k1, c1, A2, k2, c2, A3, k3, c3, A4, k4, c4, t0, t1, t2, t3, t4, rfl, -, hk1, -⟩ := hlay.lens
  have hba := (Below.refl w.heap.size w).alloc (Nat.le_refl _) (.cells #[.slice A0 k0 c0, .slice A1 k1 c1, .slice A2 k2 c2, .slice A3 k3 c3, .slice A4 k4 c4, .int .i64 t0, .int .i64 t1, .int .i64 t2, .int .i64 t3, .int .i64 t4] 39)
  have HB := Lib.hid hba
  have HR := Lib.hid (Row.new w 39 #[.slice A0 k0 c0, .slice A1 k1 c1, .slice A2 k2 c2, .slice A3 k3 c3, .slice A4 k4 c4, .int .i64 t0, .int .i64 t1, .int .i64 t2, .int .i64 t3, .int .i64 t4])
  have HL := Lib.hid (hlay.up hba)
  have HO := Lib.hid (ho.up hba)
  have HV := Lib.hid (hv.up hba)
  have HP := Lib.hid hps
  have HOK := Lib.hid hok
  have HOL := Lib.hid hol
  have HK : Hid (L.secs.length = k1 ∧ k1 ≤ 100) := ⟨hk1, by rw [← hk1]; exact hL.s⟩
  have HF := Lib.hid hL
  have HNW := Lib.hid (Nat.le_refl w.heap.size)
  obtain ⟨Ao, co, rfl, -⟩ := ho
  obtain ⟨Av, cv, vs, rfl, -⟩ := hv
  have hil : (ivals own).length = own.length := by simp [ivals]
  rw [hil] at HO ⊢
  clear hba hlay hps hok hol hk1 hil hL
  go_enter Tryd.func16, Tryd.ntmps16
  go_upto_region 1 with (fail)
  obtain ⟨n0, hn0⟩ : ∃ n, n = w.heap.size := ⟨_, rfl⟩
  rw [← hn0] at HR ⊢
  clear hn0
  generalize w.alloc (.cells #[.slice A0 k0 c0, .slice A1 k1 c1, .slice A2 k2 c2, .slice A3 k3 c3, .slice A4 k4 c4, .int .i64 t0, .int .i64 t1, .int .i64 t2, .int .i64 t3, .int .i64 t4] 39) = W0 at *
  have f0 := HR.out.cell 0; have f1 := HR.out.cell 1; have f2 := HR.out.cell 2; have f3 := HR.out.cell 3; have f4 := HR.out.cell 4
  have f5 := HR.out.cell 5; have f6 := HR.out.cell 6; have f7 := HR.out.cell 7; have f8 := HR.out.cell 8; have f9 := HR.out.cell 9
  simp only [List.getElem?_toArray, List.getElem?_cons_zero, List.getElem?_cons_succ] at f0 f1 f2 f3 f4 f5 f6 f7 f8 f9
  go_wp2_with fail
  refine (new_any W0 _ L HL.out HF.out).mono ?_; rintro e w1 ⟨vg, rfl, hg, hb1⟩
  have HB1 := Lib.hid (HB.out.trans (hb1.mono HB.out.size))
  have HR1 := Lib.hid (Below.row hb1 HR.out HR.out.lt)
  have HO1 := Lib.hid (HO.out.up hb1)
  have HV1 := Lib.hid (HV.out.up hb1)
  have HG := Lib.hid hg
  have g1 := HR1.out.cell 1
  simp only [List.getElem?_toArray, List.getElem?_cons_zero, List.getElem?_cons_succ] at g1
  obtain ⟨gg, a1, a2, a3, rfl, -⟩ := hg
  clear hb1 f0 f1 f2 f3 f4 f5 f6 f7 f8 f9 HR HB HL HO HV
  have hmk := make_bytes k1 (by have := HK.out.2; omega)
  obtain ⟨f, hf⟩ : ∃ f : Nat → Nat, f = fun (i : Nat) => stO L own ps (i : Int) := ⟨_, rfl⟩
  have HFF := Lib.hid hf
  clear hf
  have hz : List.replicate k1 (0 : Nat) = mixB f k1 0 := (mixB_zero _ _).symm
  rw [hz] at hmk
  clear hz
  obtain ⟨D, hD⟩ : ∃ n, w1.heap.size = n := ⟨_, rfl⟩
  have HS : Hid (OfSt w w.heap.size D D k1 (.pointer (some ⟨gg, 0, none⟩)) (.slice Ao own.length co) (.slice Av ps.length cv) L own ps f 0 (w1.alloc (.cells (bvals (mixB f k1 0)).toArray 5))) := by
    have hb9 := (Below.refl w1.heap.size w1).alloc (Nat.le_refl _) (.cells (bvals (mixB f k1 0)).toArray 5)
    rw [← hD]
    exact ⟨HB1.out.trans (hb9.mono HB1.out.size), Row.new w1 5 _, HG.out.keep hb9 (Nat.le_refl _), HO1.out.below hb9 (Nat.le_refl _), HV1.out.below hb9 (Nat.le_refl _)⟩
  have HDD : Hid (w.heap.size ≤ D) := by show _ ≤ _; rw [← hD]; exact HB1.out.size
  clear HB1 HR1 HO1 HV1 HG
  go_upto_region 3 with (fail)

  clear hD hmk
  clear g1
  generalize w1.alloc (.cells (bvals (mixB f k1 0)).toArray 5) = w2 at *
  go_wp2_with fail
  go_loopw [18] (fun k wr => ∃ i : Nat, i ≤ k1 ∧ k = .int .i64 i ∧ Hid (OfSt w w.heap.size D D k1 (.pointer (some ⟨gg, 0, none⟩)) (.slice Ao own.length co) (.slice Av ps.length cv) L own ps f i wr)) (fun k _ => k1 - (intOf k).toNat)
  case atStart => exact ⟨0, Nat.zero_le _, rfl, HS.out⟩
  case round =>
    obtain ⟨i, hi, rfl, HJ⟩ := hrel
    by_cases hlt : i < k1
    · have hli : (i : Int) < (k1 : Int) := by omega
      clear HS
      go_wp2_with fail
      refine (part_any wr D _ L (i : Int) HJ.out.gr (by have := HJ.out.lt; omega) HF.out).mono ?_; rintro e wa ⟨rfl, hba⟩
      have HA := Lib.hid (HJ.out.call hba HDD.out (Nat.le_refl _))
      clear hba HJ
      go_wp2_with fail
      refine (ownerOf_any wa D _ own (partL L.parts (i : Int)) HA.out.ro (by have := HOL.out; have := HF.out.p; omega)).mono ?_; rintro e wb ⟨rfl, rfl⟩
      rw [whoS_owner HOL.out]
      go_wp2_with fail
      have hsx := stateOf_any wb (.slice Av ps.length cv) ps (i : Int) (whoS L own (i : Int)) (HA.out.rv.mono (by have := HA.out.lt; omega) (fun _ _ => rfl)) HP.out.len (fun p hp => (HP.out.span p hp).1) (whoS_ok HOK.out _).1
      have he : byO ps (i : Int) (whoS L own (i : Int)) = f i := by rw [HFF.out]; rfl
      rw [he] at hsx
      refine hsx.mono ?_; rintro e wc ⟨rfl, hbc⟩
      have HC := Lib.hid (HA.out.call hbc HDD.out (Nat.le_refl _))
      have HN := Lib.hid (HC.out.put HDD.out (Nat.le_refl _))
      clear hsx hbc HA he
      have z0 := HC.out.row.frozen i
      have c0 := HC.out.row.cell i
      have c1 : wc.cell? ⟨D, i, none⟩ = some (.int .u8 0) := by
        rw [c0]; simp [bvals, mixB, hlt]
      clear c0
      have hk100 := HK.out.2
      go_wp2_with fail
      go_roundw
      case rel => exact ⟨i + 1, by omega, by go_num, HN.out⟩
      case measure => simp [intOf]; omega
    · have hin : i = k1 := by omega
      subst hin
      go_wp2_with fail
      go_ret
      have hr := HJ.out.row
      rw [mixB_full] at hr
      have e : (List.range i).map f = ofO L own ps := by rw [HFF.out]; unfold ofO; rw [HK.out.1]
      rw [e] at hr
      have hl : (ofO L own ps).length = i := by rw [ofO_len, HK.out.1]
      refine ⟨_, rfl, ?_, HJ.out.bel⟩
      have ho := own_of_row hr (by rw [hl]; have := HK.out.2; omega) HDD.out
      rw [hl] at ho ⊢
      exact ho
end Go.Proofs.YtblbbdkpebacbaaDoor
