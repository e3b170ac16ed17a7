/- The document's example. -/
import Derived.Test.YthnjilbfkfekhaaP2
import Derived.Test.YthnjilbfkfekhaaFull
namespace Go.Proofs.Ythnjilbfkfekhaa
open Go.RowKit Fl
set_option maxRecDepth 100000

theorem full_secs (d : Dr) : 0 < (fullL d).secs.length ∧ ∀ n, n < (fullL d).secs.length → 0 < lenL (fullL d).secs (n : Int) ∧ lenL (fullL d).secs (n : Int) ≤ 1000 := by
  have e : (fullL d).secs.length = (makeEnds d).length := makeSecs_len d _ _
  refine ⟨by have := makeEnds_len d; omega, fun n hn => ?_⟩
  have h1 : lenL (fullL d).secs (n : Int) = ((fullL d).secs.getD n (0, 0, 0)).1 := by
    unfold lenL hasB
    rw [if_pos (by simp; omega)]; simp
  rw [h1]
  have key : ∀ (m i : Nat), i < m → 0 < ((makeSecs d (makeEnds d) m).getD i (0, 0, 0)).1 ∧ ((makeSecs d (makeEnds d) m).getD i (0, 0, 0)).1 ≤ 1000 := by
    intro m
    induction m with
    | zero => intro i hi; omega
    | succ m ih =>
      intro i hi
      have l := makeSecs_len d (makeEnds d) m
      simp only [makeSecs, List.getD]
      rcases Nat.lt_or_ge i m with c | c
      · rw [List.getElem?_append_left (by omega)]
        have := ih i c
        simpa only [List.getD] using this
      · have e2 : i = m := by omega
        rw [List.getElem?_append_right (by omega), l, e2, Nat.sub_self]
        have hu := unit_bounds d
        simp
        omega
  exact key _ n (by omega)

theorem full_wf (d : Dr) : ∀ p ∈ (fullL d).parts, Wf p := by
  intro p hp
  refine wf_of fun n hn => ?_
  have h := (makeParts_le d _).2 p hp
  have h1 := h.2 n hn
  have h2 := makeEnds_len d
  omega

theorem besideL_mem (L : Lay) (i : Nat) (hi : i < L.parts.length) (b : Int) : b ∈ besideL L (i : Int) ↔ ∃ s ∈ L.parts[i], ∃ n ∈ nearL L s, partL L.parts n = b ∧ b ≠ (i : Int) ∧ 0 ≤ b := by
  unfold besideL
  rw [if_pos (by omega), riseL_mem]
  have e : L.parts.getD (i : Int).toNat [] = L.parts[i] := by simp [List.getD, hi]
  rw [e]
  unfold besTo partsOf otherP
  simp only [List.mem_flatMap, List.mem_filter, List.mem_map, Bool.and_eq_true, Bool.not_eq_true', beq_eq_false_iff_ne, decide_eq_true_eq]
  constructor
  · rintro ⟨s, hs, ⟨n, hn, e⟩, h1, h2⟩; exact ⟨s, hs, n, hn, e, h1, h2⟩
  · rintro ⟨s, hs, n, hn, e, h1, h2⟩; exact ⟨s, hs, ⟨n, hn, e⟩, h1, h2⟩

def d00 : Dr := ⟨0, 0, 0, 0, 0, 0, 0, 0, []⟩
def exWas : List Int := [3, -2, -2]
def exClr : List Bool := [false, false, true]
def exVws : List Vw := [(3, true, [1, 0])]
/-- Where nobody but one is, it is that one's. -/
theorem fold_three : ∀ (bs : List Int) (a : Int), (a = 3 ∨ a = -2) → (∀ b ∈ bs, ∃ k : Nat, b = (k : Int) ∧ k < 3) → foldO exWas a bs = if a = 3 ∨ (0 : Int) ∈ bs then 3 else -2
  | [], a, h, _ => by rcases h with rfl | rfl <;> simp [foldO]
  | b :: r, a, h, hb => by
    obtain ⟨k, rfl, hk⟩ := hb b (List.mem_cons_self ..)
    have hr : ∀ b ∈ r, ∃ k : Nat, b = (k : Int) ∧ k < 3 := fun b hb' => hb b (List.mem_cons_of_mem _ hb')
    show foldO exWas (togO a (exWas.getD (k : Int).toNat 0)) r = _
    rw [Int.toNat_natCast]
    rcases (show k = 0 ∨ k = 1 ∨ k = 2 by omega) with rfl | rfl | rfl
    · have e : togO a (exWas.getD 0 0) = 3 := by rcases h with rfl | rfl <;> rfl
      rw [e, fold_three r 3 (Or.inl rfl) hr]
      simp
    · have e : togO a (exWas.getD 1 0) = a := by rcases h with rfl | rfl <;> rfl
      rw [e, fold_three r a h hr]
      simp
    · have e : togO a (exWas.getD 2 0) = a := by rcases h with rfl | rfl <;> rfl
      rw [e, fold_three r a h hr]
      simp
theorem d00_parts : (fullL d00).parts = [[0], [1], [2]] := by decide +kernel
theorem d00_near : (nearTo (fullL d00) 1 2).contains 0 = true := by decide +kernel
theorem d00_zero : (0 : Int) ∈ besideL (fullL d00) ((1 : Nat) : Int) := by
  refine (besideL_mem _ 1 (by rw [d00_parts]; decide) 0).2 ⟨1, by simp [d00_parts], 0, ?_, by rw [d00_parts]; decide, by decide, by decide⟩
  unfold nearL
  rw [riseL_mem]
  exact List.contains_iff_mem.1 d00_near
theorem ex_next : nextO (fullL d00) exWas exClr exVws = [3, 3, -2] := by
  have hl : (fullL d00).parts.length = 3 := by rw [d00_parts]; rfl
  have hb : ∀ (p : Int), ∀ b ∈ besideL (fullL d00) p, ∃ k : Nat, b = (k : Int) ∧ k < 3 := fun p b h => by
    obtain ⟨k, h1, h2⟩ := besideL_in h
    exact ⟨k, h1, by omega⟩
  have w0 : whoO (fullL d00) exWas 0 = 3 := by
    show foldO exWas 3 _ = 3
    rw [fold_three _ 3 (Or.inl rfl) (hb _)]; simp
  have w1 : whoO (fullL d00) exWas 1 = 3 := by
    show foldO exWas (-2) (besideL (fullL d00) ((1 : Nat) : Int)) = 3
    rw [fold_three _ (-2) (Or.inr rfl) (hb _), if_pos (Or.inr d00_zero)]
  have p0 : partO (fullL d00) exWas exClr exVws 0 = 3 := by
    unfold partO
    rw [w0, d00_parts]
    decide
  have p1 : partO (fullL d00) exWas exClr exVws 1 = 3 := by
    unfold partO
    rw [w1, d00_parts]
    decide
  have p2 : partO (fullL d00) exWas exClr exVws 2 = -2 := by
    unfold partO
    rw [if_pos (by decide)]
  unfold nextO
  rw [hl]
  show [partO (fullL d00) exWas exClr exVws 0, partO (fullL d00) exWas exClr exVws 1, partO (fullL d00) exWas exClr exVws 2] = _
  rw [p0, p1, p2]

theorem ints_lit (w : World) (va vb : Value) (xs : List Int) (ha : Rd w w.heap.size va (ivals xs)) (hb : Rd w w.heap.size vb (ivals xs)) (hl : xs.length ≤ 1000) : Calls Try.prog 16 #[va, vb] w (RetB true w) := by
  have h := ints_any w _ va vb xs xs ha hb (by omega)
  rw [show decide (xs = xs) = true from decide_eq_true rfl] at h
  exact h

set_option maxHeartbeats 8000000 in
theorem comes_any (w : World) : Calls Try.prog 10 #[] w (RetL true w) := by
  have HMK : Hid (∀ W : World, Calls Try.prog 27 #[.agg #[.int .u8 0, .int .u8 0, .int .u8 0, .int .u16 0, .int .u16 0, .int .u8 0, .int .u8 0, .int .u8 0, .slice none 0 0]] W (RetLay (fullL d00) W)) := fun W => by
    refine (makeDraft_any W d00 (.slice none 0 0) ⟨by decide, by decide, by decide, by decide, by decide, by decide, by decide, by decide, by simp [d00]⟩ ⟨[], Rd.empty _ _, rfl, by simp [d00]⟩).mono ?_
    rintro x w' ⟨vN, vS, vP, vQ, rfl, hF, hb⟩
    exact ⟨_, rfl, IsLay.v ⟨vN, vS, vP, vQ, _, rfl, hF⟩, hb⟩
  have HFT : Hid (Fits (fullL d00)) := fullL_fits d00
  have HWP := Lib.hid (full_wf d00)
  have HPL : Hid ((fullL d00).parts.length = 3) := by show _ = _; rw [d00_parts]; rfl
  have HEX := Lib.hid ex_next
  generalize fullL d00 = L at *
  go_enter Try.func10, Try.ntmps10
  go_wp2_with fail
  refine (HMK.out w).mono ?_; rintro x w1 ⟨vL, rfl, hvL, hb1⟩
  obtain ⟨A0, k0, c0, A1, k1, c1, A2, k2, c2, A3, k3, c3, A4, k4, c4, t0, t1, t2, t3, t4, hv, -, -, hk2, -⟩ := hvL.lens
  subst hv
  have hk3 : k2 = 3 := by rw [← hk2]; exact HPL.out
  subst hk3
  clear hk2
  have hb2 := (Below.refl w1.heap.size w1).alloc (Nat.le_refl _) (.cells #[.slice A0 k0 c0, .slice A1 k1 c1, .slice A2 3 c2, .slice A3 k3 c3, .slice A4 k4 c4, .int .i64 t0, .int .i64 t1, .int .i64 t2, .int .i64 t3, .int .i64 t4] 39)
  have HB2 : Hid (Below w.heap.size w (w1.alloc (.cells #[.slice A0 k0 c0, .slice A1 k1 c1, .slice A2 3 c2, .slice A3 k3 c3, .slice A4 k4 c4, .int .i64 t0, .int .i64 t1, .int .i64 t2, .int .i64 t3, .int .i64 t4] 39))) := hb1.trans (hb2.mono hb1.size)
  have HV2 := Lib.hid (hvL.up hb2)
  have HR2 := Lib.hid (Row.new w1 39 #[.slice A0 k0 c0, .slice A1 k1 c1, .slice A2 3 c2, .slice A3 k3 c3, .slice A4 k4 c4, .int .i64 t0, .int .i64 t1, .int .i64 t2, .int .i64 t3, .int .i64 t4])
  clear hb1 hb2 hvL HMK
  go_upto_region 2 with (fail)
  obtain ⟨b1, hb1⟩ : ∃ n, n = w1.heap.size := ⟨_, rfl⟩
  rw [← hb1] at HR2 ⊢
  clear hb1
  generalize w1.alloc (.cells #[.slice A0 k0 c0, .slice A1 k1 c1, .slice A2 3 c2, .slice A3 k3 c3, .slice A4 k4 c4, .int .i64 t0, .int .i64 t1, .int .i64 t2, .int .i64 t3, .int .i64 t4] 39) = w2 at *
  have p2 := HR2.out.cell 2
  simp only [List.getElem?_toArray, List.getElem?_cons_zero, List.getElem?_cons_succ] at p2
  go_upto_region 4 with (fail)
  clear p2
  have hb3 := below2 w2 (.cells #[.int .i64 1, .int .i64 0] 3) (.cells #[.int .i64 3, .bool true, .slice (some ⟨w2.heap.size, 0, none⟩) 2 2] 67)
  have hlit := (Rd.lit w2 [1, 0] #[.int .i64 1, .int .i64 0] 2 rfl rfl).up ((Below.refl _ _).alloc (Nat.le_refl _) (.cells #[.int .i64 3, .bool true, .slice (some ⟨w2.heap.size, 0, none⟩) 2 2] 67))
  have hrt := Row.new (w2.alloc (.cells #[.int .i64 1, .int .i64 0] 3)) 67 #[.int .i64 3, .bool true, .slice (some ⟨w2.heap.size, 0, none⟩) 2 2]
  rw [World.size_alloc] at hrt
  have HVW : Hid (Vws ((w2.alloc (.cells #[.int .i64 1, .int .i64 0] 3)).alloc (.cells #[.int .i64 3, .bool true, .slice (some ⟨w2.heap.size, 0, none⟩) 2 2] 67)) ((w2.alloc (.cells #[.int .i64 1, .int .i64 0] 3)).alloc (.cells #[.int .i64 3, .bool true, .slice (some ⟨w2.heap.size, 0, none⟩) 2 2] 67)).heap.size (.slice (some ⟨w2.heap.size + 1, 0, none⟩) 1 1) exVws) := by
    refine ⟨some ⟨w2.heap.size + 1, 0, none⟩, 1, [.slice (some ⟨w2.heap.size, 0, none⟩) 2 2], rfl, rfl, ?_, fun _ => ⟨w2.heap.size + 1, 0, rfl, hrt.lt, ?_⟩⟩
    · intro i h1 h2
      have : i = 0 := by simp at h1; omega
      subst this
      exact hlit
    · intro j h h1
      have : j = 0 := by simp at h1; omega
      subst this
      exact ⟨hrt.cell 0, hrt.cell 1, hrt.cell 2⟩
  have HB3 : Hid (Below w.heap.size w ((w2.alloc (.cells #[.int .i64 1, .int .i64 0] 3)).alloc (.cells #[.int .i64 3, .bool true, .slice (some ⟨w2.heap.size, 0, none⟩) 2 2] 67))) := HB2.out.trans (hb3.mono HB2.out.size)
  have HV3 := Lib.hid (HV2.out.up hb3)
  have HR3 := Lib.hid (Below.row hb3 HR2.out HR2.out.lt)
  clear hb3 hlit hrt HB2 HV2 HR2
  go_upto_region 5 with (fail)
  obtain ⟨gt, hgt⟩ : ∃ n, n = w2.heap.size := ⟨_, rfl⟩
  rw [← hgt] at HB3 HV3 HR3 HVW ⊢
  obtain ⟨b2, hb2⟩ : ∃ n, n = gt + 1 := ⟨_, rfl⟩
  rw [← hb2] at HVW ⊢
  clear hgt hb2
  generalize (w2.alloc (.cells #[.int .i64 1, .int .i64 0] 3)).alloc (.cells #[.int .i64 3, .bool true, .slice (some ⟨gt, 0, none⟩) 2 2] 67) = w3 at *
  have p0 := HR3.out.cell 0; have p1 := HR3.out.cell 1; have p2 := HR3.out.cell 2; have p3 := HR3.out.cell 3; have p4 := HR3.out.cell 4; have p5 := HR3.out.cell 5; have p6 := HR3.out.cell 6; have p7 := HR3.out.cell 7; have p8 := HR3.out.cell 8; have p9 := HR3.out.cell 9
  simp only [List.getElem?_toArray, List.getElem?_cons_zero, List.getElem?_cons_succ] at p0 p1 p2 p3 p4 p5 p6 p7 p8 p9
  have hb4 := below2 w3 (.cells #[.int .i64 3, .int .i64 (-2), .int .i64 (-2)] 3) (.cells #[.bool false, .bool false, .bool true] 4)
  have HWL := Lib.hid ((Rd.lit w3 [3, -2, -2] #[.int .i64 3, .int .i64 (-2), .int .i64 (-2)] 3 rfl rfl).up ((Below.refl _ _).alloc (Nat.le_refl _) (.cells #[.bool false, .bool false, .bool true] 4)))
  have hrc := Row.new (w3.alloc (.cells #[.int .i64 3, .int .i64 (-2), .int .i64 (-2)] 3)) 4 #[.bool false, .bool false, .bool true]
  rw [World.size_alloc] at hrc
  have HCL : Hid (Rd ((w3.alloc (.cells #[.int .i64 3, .int .i64 (-2), .int .i64 (-2)] 3)).alloc (.cells #[.bool false, .bool false, .bool true] 4)) ((w3.alloc (.cells #[.int .i64 3, .int .i64 (-2), .int .i64 (-2)] 3)).alloc (.cells #[.bool false, .bool false, .bool true] 4)).heap.size (.slice (some ⟨w3.heap.size + 1, 0, none⟩) 3 3) (cvals exClr)) := by
    refine ⟨_, 3, rfl, ⟨(fun e => by cases e), by decide⟩, fun _ => ⟨w3.heap.size + 1, 0, rfl, hrc.lt, fun j u hu => ?_⟩⟩
    rw [Nat.zero_add, hrc.cell j]
    simpa [exClr, cvals] using hu
  have HB4 : Hid (Below w.heap.size w ((w3.alloc (.cells #[.int .i64 3, .int .i64 (-2), .int .i64 (-2)] 3)).alloc (.cells #[.bool false, .bool false, .bool true] 4))) := HB3.out.trans (hb4.mono HB3.out.size)
  have HNX := Lib.hid (nextOwn_any _ _ _ _ _ L exWas exClr exVws (HV3.out.up hb4) HFT.out (by rw [HPL.out]; rfl) (by rw [HPL.out]; rfl) HWL.out HCL.out (HVW.out.up hb4) (by intro x hx; simp [exWas] at hx; omega) ⟨by decide, by intro v hv; simp [exVws] at hv; subst hv; exact ⟨by decide, wf_of (by intro n hn; simp at hn; omega)⟩⟩ HWP.out)
  rw [HEX.out] at HNX
  clear hb4 hrc HB3 HV3 HR3 HVW HWL HCL
  go_wp2_with fail
  refine HNX.out.mono ?_; rintro x w5 ⟨g, rfl, -, hr5, hb5⟩
  have hb6 := (Below.refl w5.heap.size w5).alloc (Nat.le_refl _) (.cells #[.int .i64 3, .int .i64 3, .int .i64 (-2)] 3)
  have HB6 : Hid (Below w.heap.size w (w5.alloc (.cells #[.int .i64 3, .int .i64 3, .int .i64 (-2)] 3))) := (HB4.out.trans (hb5.mono HB4.out.size)).trans (hb6.mono (by have := HB4.out.size; have := hb5.size; omega))
  have HI := Lib.hid (ints_lit (w5.alloc (.cells #[.int .i64 3, .int .i64 3, .int .i64 (-2)] 3)) _ _ [3, 3, -2] ((Rd.ofRow hr5).up hb6) (Rd.lit w5 [3, 3, -2] #[.int .i64 3, .int .i64 3, .int .i64 (-2)] 3 rfl rfl) (by decide))
  clear hb5 hb6 hr5 HNX HB4 p0 p1 p2 p3 p4 p5 p6 p7 p8 p9
  go_wp2_with fail
  refine HI.out.mono ?_; rintro x w6 ⟨rfl, n6, rfl⟩
  have HB7 := Lib.hid (Below.drewN HB6.out n6)
  clear HB6 HI
  go_wp2_with fail
  go_ret
  exact ⟨rfl, HB7.out⟩
end Go.Proofs.Ythnjilbfkfekhaa
