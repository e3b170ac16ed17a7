/- Contract of own: Declare. -/
import Derived.Test.YthnjilbfkfekhaaO5
import Derived.Test.YthnjilbfkfekhaaBMath
import Derived.Deep.RegionHeld3
import Derived.BigQuiet
namespace Go.Proofs.Ythnjilbfkfekhaa
open Go.RowKit Fl
set_option maxRecDepth 100000

theorem own_put {w : World} {g cap I : Nat} {p : List Int} {cur : Array Value} (O : Int) (h : w.ownsRow 0 3 1 (.slice (some ⟨g, 0, none⟩) p.length cap) p.length (ivals p)) (hh : w.heap[g]? = some (.cells cur 3 (0, 0))) (hI : I < p.length) :
    w.cell? ⟨g, I, none⟩ = some (.int .i64 p[I]) ∧ Rd (w.setCell ⟨g, I, none⟩ (.int .i64 O)) (w.setCell ⟨g, I, none⟩ (.int .i64 O)).heap.size (.slice (some ⟨g, 0, none⟩) p.length cap) (ivals (p.set I O)) := by
  have hr : Row w g 3 cur := hh
  have hc : ∀ j (hj : j < p.length), cur[j]? = some (.int .i64 p[j]) := fun j hj => own_cur h hh j _ (by simp [ivals, hj])
  have hset := hr.set I (.int .i64 O)
  refine ⟨by rw [hr.cell I, hc I hI], ?_⟩
  have hcap := own_cap h
  refine ⟨some ⟨g, 0, none⟩, cap, by simp [ivals], ⟨(fun e => by cases e), by simp [ivals]; exact hcap⟩, fun _ => ⟨g, 0, rfl, hset.lt, fun j u hu => ?_⟩⟩
  rw [Nat.zero_add, hset.cell j]
  have hj : j < p.length := by have := (List.getElem?_eq_some_iff.1 hu).1; simpa [ivals] using this
  have hs : I < cur.size := by
    have := hc I hI
    exact (Array.getElem?_eq_some_iff.1 this).1
  by_cases e : j = I
  · subst e
    have e2 : u = .int .i64 O := by simpa [ivals, hj] using hu.symm
    rw [e2, Array.getElem?_setIfInBounds_self, if_pos hs]
  · rw [Array.getElem?_setIfInBounds_ne (fun h => e h.symm), hc j hj]
    have e2 : (p.set I O)[j]? = some p[j] := by rw [List.getElem?_set_ne (fun h => e h.symm)]; exact List.getElem?_eq_getElem hj
    rw [← hu]
    unfold ivals
    rw [List.getElem?_map, e2]; rfl

theorem own_put2 {w : World} {B cap I n : Nat} {A : Option Addr} {p : List Int} (h : w.ownsRow B 3 1 (.slice A n cap) n (ivals p)) (hn : p.length = n) (hI : I < p.length) : ∃ g, A = some ⟨g, 0, none⟩ ∧ B ≤ g ∧ w.cell? ⟨g, I, none⟩ = some (.int .i64 p[I]) ∧ w.frozen? ⟨g, I, none⟩ = false ∧ ∀ O : Int, Rd (w.setCell ⟨g, I, none⟩ (.int .i64 O)) (w.setCell ⟨g, I, none⟩ (.int .i64 O)).heap.size (.slice (some ⟨g, 0, none⟩) n cap) (ivals (p.set I O)) := by
  subst hn
  rcases h.2 with ⟨e, h0⟩ | ⟨g, cap', cur, e, hb, hh, _⟩
  · omega
  · injection e with e1 e2 e3
    subst e1 e3
    have h0 := own_base h (Nat.zero_le B)
    refine ⟨g, rfl, hb, (own_put 0 h0 hh hI).1, (show Row w g 3 cur from hh).frozen I, fun O => (own_put O h0 hh hI).2⟩

/-- What Declare says: the list, and the error's number. -/
def declL (L : Lay) (was : List Int) (clr : List Bool) (xs : List Vw) (part tr : Int) : List Int × Int :=
  if ¬ (0 ≤ part ∧ part < (L.parts.length : Int)) then (was, 7)
  else if (findV xs tr).isSome = false then (was, 7)
  else if clr.getD part.toNat false = true ∨ holdsB xs (L.parts.getD part.toNat []) tr = false then (was, 8)
  else (was.set part.toNat tr, 0)
theorem declL_len (L : Lay) (was : List Int) (clr : List Bool) (xs : List Vw) (part tr : Int) : (declL L was clr xs part tr).1.length = was.length := by
  unfold declL; repeat' split
  all_goals simp
theorem declL_same (L : Lay) (was : List Int) (clr : List Bool) (xs : List Vw) (part tr : Int) (h : (declL L was clr xs part tr).2 ≠ 0) : (declL L was clr xs part tr).1 = was := by
  unfold declL at h ⊢
  split
  · rfl
  · split
    · rfl
    · split
      · rfl
      · rename_i h1 h2 h3
        rw [if_neg h1, if_neg h2, if_neg h3] at h
        exact absurd rfl h

def RetDecl (r : List Int × Int) (w : World) (e : Ending) (w' : World) : Prop :=
  ∃ A c, e = .returned (.tuple #[.slice A r.1.length c, .int .i64 r.2]) ∧ Rd w' w'.heap.size (.slice A r.1.length c) (ivals r.1) ∧ Below w.heap.size w w'

set_option maxHeartbeats 8000000 in
theorem declare_any (w : World) (vl vw vc vv : Value) (L : Lay) (was : List Int) (clr : List Bool) (xs : List Vw) (part tr : Int) (hlay : LayV w w.heap.size vl L) (hL : Fits L) (hlw : was.length = L.parts.length) (hlc : clr.length = L.parts.length)
    (hw : Rd w w.heap.size vw (ivals was)) (hc : Rd w w.heap.size vc (cvals clr)) (hv : Vws w w.heap.size vv xs) (hx : OkV xs) (hp : ∀ p ∈ L.parts, Wf p) :
    Calls Try.prog 23 #[vl, vw, vc, vv, .int .i64 part, .int .i64 tr] w (RetDecl (declL L was clr xs part tr) w) := by
  obtain ⟨A0, k0, c0, A1, k1, c1, A2, k2, c2, A3, k3, c3, A4, k4, c4, t0, t1, t2, t3, t4, hvl, _, _, hk2, _⟩ := hlay.lens
  subst hvl
  have hb0 := (Below.refl w.heap.size w).alloc (Nat.le_refl _) (.cells #[.slice A0 k0 c0, .slice A1 k1 c1, .slice A2 k2 c2, .slice A3 k3 c3, .slice A4 k4 c4, .int .i64 t0, .int .i64 t1, .int .i64 t2, .int .i64 t3, .int .i64 t4] 39)
  have HB0 := Lib.hid hb0
  have HL0 := Lib.hid (hlay.up hb0)
  have HR0 := Lib.hid (Row.new w 39 #[.slice A0 k0 c0, .slice A1 k1 c1, .slice A2 k2 c2, .slice A3 k3 c3, .slice A4 k4 c4, .int .i64 t0, .int .i64 t1, .int .i64 t2, .int .i64 t3, .int .i64 t4])
  have HW0 := Lib.hid ((hw.below hb0 (Nat.le_refl _)).mono hb0.size (fun _ _ => rfl))
  have HC0 := Lib.hid ((hc.below hb0 (Nat.le_refl _)).mono hb0.size (fun _ _ => rfl))
  have HV0 := Lib.hid (hv.up hb0)
  have HF := Lib.hid hL; have HX := Lib.hid hx
  obtain ⟨Aw, cw, rfl, -, -⟩ := id hw
  obtain ⟨Ac, cc, rfl, -, -⟩ := id hc
  obtain ⟨Av, cv, vvs, rfl, -⟩ := id hv
  have HK2 : Hid (L.parts.length = k2 ∧ k2 ≤ 100 ∧ was.length = k2 ∧ clr.length = k2) := ⟨hk2, by rw [← hk2]; exact hL.p, by rw [← hk2]; exact hlw, by rw [← hk2]; exact hlc⟩
  have hil : (ivals was).length = k2 := by rw [← hk2, ← hlw]; simp [ivals]
  have hcl : (cvals clr).length = k2 := by rw [← hk2, ← hlc]; simp [cvals]
  rw [hil] at HW0 ⊢
  rw [hcl] at HC0 ⊢
  have HP := Lib.hid hp
  clear hlay hb0 hL hlw hlc hw hc hv hx hp hil hcl hk2
  go_enter Try.func23, Try.ntmps23
  go_upto_region 1 with (fail)
  obtain ⟨n0, hn0⟩ : ∃ n, n = w.heap.size := ⟨_, rfl⟩
  have HN : Hid (n0 = w.heap.size) := hn0
  rw [← hn0] at HR0 ⊢
  clear hn0
  generalize w.alloc (.cells #[.slice A0 k0 c0, .slice A1 k1 c1, .slice A2 k2 c2, .slice A3 k3 c3, .slice A4 k4 c4, .int .i64 t0, .int .i64 t1, .int .i64 t2, .int .i64 t3, .int .i64 t4] 39) = W0 at *
  have hcln := clone38 W0 W0.heap.size _ was HW0.out (by have := HK2.out; omega)
  have HCLN := Lib.hid hcln
  clear hcln
  go_wp2_with fail
  refine HCLN.out.mono ?_; rintro e w1 ⟨v1, rfl, ho1, hb1⟩
  obtain ⟨A9, c9, hv9⟩ := own_slice ho1
  subst hv9
  have hsz1 := HB0.out.size
  have HO1 := Lib.hid ho1
  have HB1 := Lib.hid (HB0.out.trans (hb1.mono HB0.out.size))
  have HR1 := Lib.hid (Below.row hb1 HR0.out HR0.out.lt)
  have HL1 := Lib.hid (HL0.out.up hb1)
  have HC1 := Lib.hid (HC0.out.up hb1)
  have HV1 := Lib.hid (HV0.out.up hb1)
  have HOB : Hid (w.heap.size ≤ W0.heap.size) := hsz1
  obtain ⟨wl, hwl⟩ : ∃ n, was.length = n := ⟨_, rfl⟩
  have hwk : wl = k2 := by have := HK2.out; omega
  subst hwk
  have HWL := Lib.hid hwl
  rw [hwl] at HO1
  simp only [hwl]
  clear hb1 ho1 HB0 HR0 HL0 HC0 HV0 HW0 HCLN hsz1 hwl
  have p2 := HR1.out.cell 2
  simp only [List.getElem?_toArray, List.getElem?_cons_zero, List.getElem?_cons_succ] at p2
  have HRO : Hid (∀ (W' : World) (k : Int), Below w1.heap.size w1 W' → declL L was clr xs part tr = (was, k) → RetDecl (declL L was clr xs part tr) w (.returned (.tuple #[.slice A9 wl c9, .int .i64 k])) W') := fun W' k hW he => by
    rw [he]
    refine ⟨A9, c9, by rw [HWL.out], ?_, HB1.out.trans (hW.mono HB1.out.size)⟩
    rw [HWL.out]
    exact Rd.of_own (own_below HO1.out hW)
  by_cases hin : 0 ≤ part ∧ part < (wl : Int)
  · obtain ⟨p, rfl⟩ := Int.eq_ofNat_of_zero_le hin.1
    have hp1 : ¬ (p : Int) < 0 := by omega
    have hp2 : ¬ (wl : Int) ≤ (p : Int) := by omega
    have hpl : p < wl := by omega
    have HPL := Lib.hid hpl
    have hfi := find_any w1 w1.heap.size _ xs tr HV1.out (Nat.le_refl _) HX.out.len
    have HFI := Lib.hid hfi
    have hdc : declL L was clr xs (p : Int) tr = if (findV xs tr).isSome = false then (was, 7) else if clr.getD p false = true ∨ holdsB xs (L.parts.getD p []) tr = false then (was, 8) else (was.set p tr, 0) := by
      unfold declL
      rw [if_neg (by have := HK2.out.1; omega), Int.toNat_natCast]
    have HDC := Lib.hid hdc
    clear hfi hdc hin
    go_wp2_with fail
    refine HFI.out.mono ?_; rintro e w2 ⟨A5, c5, rfl, h5, hb2⟩
    clear p2 HFI
    cases hfv : findV xs tr with
    | none =>
      have hd : declL L was clr xs (p : Int) tr = (was, 7) := by rw [HDC.out, hfv]; rfl
      have hb3 := (Below.refl w2.heap.size w2).alloc (Nat.le_refl _) (.cells #[.int .i64 noV.1, .bool noV.2.1, .slice A5 noV.2.2.length c5] 67)
      have HRT := Lib.hid (HRO.out _ 7 (hb2.trans (hb3.mono hb2.size)) hd)
      clear hd hb2 hb3 h5 hfv
      go_upto_region 5 with (fail)
      generalize w2.alloc (.cells #[.int .i64 noV.1, .bool noV.2.1, .slice A5 noV.2.2.length c5] 67) = w3 at *
      go_wp2_with fail
      go_ret2
      exact HRT.out
    | some z =>
      rw [hfv] at h5
      obtain ⟨z0, z1, z2⟩ := z
      have hzm : (z0, z1, z2) ∈ xs := List.mem_of_find?_eq_some hfv
      have hzs := HX.out.span _ hzm
      have hb3 := (Below.refl w2.heap.size w2).alloc (Nat.le_refl _) (.cells #[.int .i64 z0, .bool z1, .slice A5 z2.length c5] 67)
      have hb23 := hb2.trans (hb3.mono hb2.size)
      have hbd := (Below.refl (w2.alloc (.cells #[.int .i64 z0, .bool z1, .slice A5 z2.length c5] 67)).heap.size (w2.alloc (.cells #[.int .i64 z0, .bool z1, .slice A5 z2.length c5] 67))).drew
      have hb24 := hb23.trans (hbd.mono hb23.size)
      have h5' : Rd (w2.alloc (.cells #[.int .i64 z0, .bool z1, .slice A5 z2.length c5] 67)).drew (w2.alloc (.cells #[.int .i64 z0, .bool z1, .slice A5 z2.length c5] 67)).drew.heap.size (.slice A5 z2.length c5) (ivals z2) := ((Rd.mono h5 hb2.size (fun _ _ => rfl)).up hb3).up hbd
      have hrv := (Row.new w2 67 #[.int .i64 z0, .bool z1, .slice A5 z2.length c5])
      have hrv2 : Row (w2.alloc (.cells #[.int .i64 z0, .bool z1, .slice A5 z2.length c5] 67)).drew w2.heap.size 67 #[.int .i64 z0, .bool z1, .slice A5 z2.length c5] := Below.row hbd hrv hrv.lt
      have hip : p < L.parts.length := by have := HK2.out.1; omega
      have hl4 := HL1.out.up hb24
      obtain ⟨bp, op, vsec, hA2, q0, hq⟩ := hl4.part_at p hip
      subst hA2
      have hwfp := HP.out L.parts[p] (List.getElem_mem hip)
      have hlnp := HF.out.r L.parts[p] (List.getElem_mem hip)
      have hsp : L.parts.getD p [] = L.parts[p] := by simp [List.getD, hip]
      have HDC2 : Hid (declL L was clr xs (p : Int) tr = if clr.getD p false = true ∨ (z1 && meetsB z2 L.parts[p]) = false then (was, 8) else (was.set p tr, 0)) := by
        show _ = _
        rw [HDC.out, hfv, if_neg (by simp), hsp]
        have e : holdsB xs L.parts[p] tr = (z1 && meetsB z2 L.parts[p]) := by unfold holdsB; rw [hfv]; rfl
        rw [e]
      obtain ⟨As, cs, rfl, -, -⟩ := id hq
      have hsl : (ivals L.parts[p]).length = L.parts[p].length := by simp [ivals]
      rw [hsl] at hq q0
      generalize L.parts[p] = sec at *
      have HIS := Lib.hid (isIn_any _ z0 z1 A5 c5 z2 sec _ h5' hq hzs ⟨by omega, hwfp⟩)
      have hcr := HC1.out.up hb24
      have HCL := Lib.hid (isClear_any _ _ _ clr p hcr (by have := HK2.out; omega))
      have hr4 := Below.row hb24 HR1.out HR1.out.lt
      have hc23 := HC1.out.up hb23
      have HCQ : Hid (∀ m, Calls Try.prog 31 #[.slice Ac wl cc, .int .i64 (p : Int)] ((w2.alloc (.cells #[.int .i64 z0, .bool z1, .slice A5 z2.length c5] 67)).drewN m) fun e w' => e = .returned (.bool (clr.getD p false)) ∧ w' = (w2.alloc (.cells #[.int .i64 z0, .bool z1, .slice A5 z2.length c5] 67)).drewN m) := fun m => (isClear_any _ _ _ clr p (hc23.mono (w' := (w2.alloc (.cells #[.int .i64 z0, .bool z1, .slice A5 z2.length c5] 67)).drewN m) (Nat.le_refl _) (fun _ _ => rfl)) (by have := HK2.out; omega)).mono fun _ _ ⟨he, hw⟩ => ⟨he, hw.symm⟩
      have HBQ : Hid (∀ m, Below w1.heap.size w1 ((w2.alloc (.cells #[.int .i64 z0, .bool z1, .slice A5 z2.length c5] 67)).drewN m)) := fun m => Below.drewN hb23 m
      have HB4 := Lib.hid hb24
      have s0 : (w2.alloc (.cells #[.int .i64 z0, .bool z1, .slice A5 z2.length c5] 67)).drew.cell? ⟨n0, 2, none⟩ = some (.slice (some ⟨bp, op, none⟩) wl c2) ∧ (w2.alloc (.cells #[.int .i64 z0, .bool z1, .slice A5 z2.length c5] 67)).drew.cell? ⟨w2.heap.size, 0, none⟩ = some (.int .i64 z0) ∧ (w2.alloc (.cells #[.int .i64 z0, .bool z1, .slice A5 z2.length c5] 67)).drew.cell? ⟨w2.heap.size, 1, none⟩ = some (.bool z1) ∧ (w2.alloc (.cells #[.int .i64 z0, .bool z1, .slice A5 z2.length c5] 67)).drew.cell? ⟨w2.heap.size, 2, none⟩ = some (.slice A5 z2.length c5) ∧ (w2.alloc (.cells #[.int .i64 z0, .bool z1, .slice A5 z2.length c5] 67)).drew.cell? ⟨bp, op + p, none⟩ = some (.slice As sec.length cs) := ⟨hr4.cell 2, hrv2.cell 0, hrv2.cell 1, hrv2.cell 2, q0⟩
      obtain ⟨cb, hcb⟩ : ∃ b, clr.getD p false = b := ⟨_, rfl⟩
      obtain ⟨bo, hbo⟩ : ∃ b, (z1 && meetsB z2 sec) = b := ⟨_, rfl⟩
      rw [hcb] at HCL HDC2 HCQ
      rw [hbo] at HIS HDC2
      clear hcb hbo hfv hc23 hb2 hb3 hb23 hbd hb24 h5 h5' hrv hrv2 hzm hzs hip hl4 hq q0 hwfp hlnp hsp hsl hcr hr4 HDC HR1 HL1 HC1 HV1
      obtain ⟨zl, hzl⟩ : ∃ n, z2.length = n := ⟨_, rfl⟩
      rw [hzl] at HIS HB4 s0 HCL HCQ HBQ
      obtain ⟨sl, hsl2⟩ : ∃ n, sec.length = n := ⟨_, rfl⟩
      rw [hsl2] at s0 HIS
      clear hsl2
      go_upto_region 7 with (fail)
      try simp only [hzl]
      clear hzl
      obtain ⟨n5, hn5⟩ : ∃ n, n = w2.heap.size := ⟨_, rfl⟩
      rw [← hn5] at s0 ⊢
      clear hn5
      generalize w2.alloc (.cells #[.int .i64 z0, .bool z1, .slice A5 zl c5] 67) = w6 at *
      obtain ⟨r0, r1, r2, r3, r4⟩ := (show _ from s0)
      cases cb with
      | true =>
        have hd : declL L was clr xs (p : Int) tr = (was, 8) := by rw [HDC2.out, if_pos (Or.inl rfl)]
        have HRT : Hid (∀ m, RetDecl (declL L was clr xs (p : Int) tr) w (.returned (.tuple #[.slice A9 wl c9, .int .i64 8])) (w6.drewN m)) := fun m => HRO.out _ 8 (HBQ.out m) hd
        clear hd HIS HDC2 r0 r1 r2 r3 r4 s0 HCL
        go_quiet ((go_at_call 31; exact Calls.quiet_of_same (HCQ.out _)))
        go_wp2_with fail
        go_ret2
        exact HRT.out _
      | false =>
        go_region_held3 (fun w' => w'.cell? ⟨n0, 2, none⟩ = some (.slice (some ⟨bp, op, none⟩) wl c2) ∧ w'.cell? ⟨n5, 0, none⟩ = some (.int .i64 z0) ∧ w'.cell? ⟨n5, 1, none⟩ = some (.bool z1) ∧ w'.cell? ⟨n5, 2, none⟩ = some (.slice A5 zl c5) ∧ w'.cell? ⟨bp, op + p, none⟩ = some (.slice As sl cs)) (first | (with_reducible assumption) | (with_reducible exact s0) | go_keep) (first | (go_at_call 31; (with_reducible refine HCL.out.mono ?_); rintro y v1 ⟨rfl, rfl⟩) | (go_at_call 35; (with_reducible refine HIS.out.mono ?_); rintro y v1 ⟨rfl, hb⟩; have s9 : v1.cell? ⟨n0, 2, none⟩ = some (.slice (some ⟨bp, op, none⟩) wl c2) ∧ v1.cell? ⟨n5, 0, none⟩ = some (.int .i64 z0) ∧ v1.cell? ⟨n5, 1, none⟩ = some (.bool z1) ∧ v1.cell? ⟨n5, 2, none⟩ = some (.slice A5 zl c5) ∧ v1.cell? ⟨bp, op + p, none⟩ = some (.slice As sl cs) := ⟨(hb.cell (p := ⟨n0, 2, none⟩) (cell_lt r0)).trans r0, (hb.cell (p := ⟨n5, 0, none⟩) (cell_lt r1)).trans r1, (hb.cell (p := ⟨n5, 1, none⟩) (cell_lt r2)).trans r2, (hb.cell (p := ⟨n5, 2, none⟩) (cell_lt r3)).trans r3, (hb.cell (p := ⟨bp, op + p, none⟩) (cell_lt r4)).trans r4⟩; have HB7 := Lib.hid (HB4.out.trans (hb.mono HB4.out.size)); clear hb))
        clear r0 r1 r2 r3 r4 s0 s9
        cases bo with
        | false =>
          have hd : declL L was clr xs (p : Int) tr = (was, 8) := by rw [HDC2.out, if_pos (Or.inr rfl)]
          have HRT := Lib.hid (HRO.out _ 8 HB7.out hd)
          clear hd HIS HDC2 HCL
          go_wp2_with fail
          go_ret2
          exact HRT.out
        | true =>
          have hd : declL L was clr xs (p : Int) tr = (was.set p tr, 0) := by rw [HDC2.out, if_neg (by simp)]
          obtain ⟨g, hA9, hg, cg, zg, hset⟩ := own_put2 (own_below HO1.out HB7.out) HWL.out (I := p) (by rw [HWL.out]; exact HPL.out)
          subst hA9
          have HST := Lib.hid (hset tr)
          have HGB : Hid (w.heap.size ≤ g) := Nat.le_trans HOB.out hg
          have HBZ : Hid (Below w.heap.size w (v1.setCell ⟨g, p, none⟩ (.int .i64 tr))) := (HB1.out.trans (HB7.out.mono HB1.out.size)).setCell (p := ⟨g, p, none⟩) HGB.out _
          have HD := Lib.hid hd
          clear hd HIS HDC2 HCL hset hg
          go_wp2_with fail
          go_ret2
          rw [HD.out]
          refine ⟨some ⟨g, 0, none⟩, c9, by rw [List.length_set, HWL.out]; rfl, ?_, HBZ.out⟩
          rw [List.length_set, HWL.out]
          exact HST.out
  · have hd : declL L was clr xs part tr = (was, 7) := by unfold declL; rw [if_pos (by rw [HK2.out.1]; exact hin)]
    have HRT := Lib.hid (HRO.out w1 7 (Below.refl _ _) hd)
    clear hd
    by_cases hp1 : part < 0
    · clear hin
      go_wp2_with fail
      go_ret2
      exact HRT.out
    · have hp2 : (wl : Int) ≤ part := by omega
      clear hin
      go_wp2_with fail
      go_ret2
      exact HRT.out

end Go.Proofs.Ythnjilbfkfekhaa
