/- Contracts: Meets, of the program and of the document. -/
import Derived.Test.YthnjilbfkfekhaaK
import Derived.Test.YthnjilbfkfekhaaJMath
import Derived.Test.YthnjilbfkfekhaaLHead
import Derived.Maps.OwnSet
namespace Go.Proofs.Ythnjilbfkfekhaa
open Go.RowKit Fl Go.Maps
set_option maxRecDepth 100000

theorem keyed3 : Keyed Try.prog 3 := int_keyed Try.underlying3
theorem zero113 (w : World) : (zeroValue 113).run Try.prog w = .ok (.agg #[]) w := by kernel_rfl
theorem key3 {n : Int} (h : (Lit.int .i64 n).wf = true) : keyOf Try.prog 3 (.int .i64 n) = some (.int .i64 n) := keyOf_int_mk Try.underlying3 h
def HasL {H : Type} (D : DataW H) (o : List Int) : Prop := ∀ x, Maps.has D (.int .i64 x) = o.contains x
theorem HasL.nil {H : Type} : HasL (.map [] : DataW H) [] := fun _ => rfl
theorem HasL.put {H : Type} {D : DataW H} {o : List Int} (h : HasL D o) (hD : IsMap D) (n : Int) (d : DataW H) : HasL (D.put (.int .i64 n) d) (o ++ [n]) := fun x => by
  by_cases e : x = n
  · subst e
    rw [has_put_same (k := .int .i64 x) hD (show WideAt.IsKeyLit (.int .i64 x) from trivial) d]
    exact (List.contains_iff_mem.2 (by simp)).symm
  · rw [has_put_other (fun c => e (by injection c)), h x, Bool.eq_iff_iff, List.contains_iff_mem, List.contains_iff_mem]
    simp [e]
theorem below_map {H : Type} {w w' : World} {P : Program} {k : TypeId} {R : Value → Option (DataW H × List MemPlace)} {b m B : Nat} {D : DataW H} (hm : w.ownsMap P k R b m D) (hb : Below B w w') (hB : b < B) : w'.ownsMap P k R b m D := by
  obtain ⟨es, clock, h, r⟩ := hm
  exact ⟨es, clock, (hb.block b hB).trans h, r⟩

/-- Which one of the second list is the first that is in the first list. -/
def findA (a b : List Int) : Option Nat := b.findIdx? (fun z => a.contains z)
theorem findA_at {a b : List Int} {i : Nat} (hi : i < b.length) (h : a.contains b[i] = true) (hb : ∀ j (hj : j < b.length), j < i → a.contains b[j] = false) : findA a b = some i := by
  unfold findA
  rw [List.findIdx?_eq_some_iff_getElem]
  exact ⟨hi, h, fun j hj => by rw [hb j (by omega) hj]; decide⟩
theorem findA_none {a b : List Int} (hb : ∀ j (hj : j < b.length), a.contains b[j] = false) : findA a b = none := by
  unfold findA
  rw [List.findIdx?_eq_none_iff]
  intro x hx
  obtain ⟨j, hj, rfl⟩ := List.getElem_of_mem hx
  exact hb j hj
/-- Have both lists something in common? -/
def meetsB (a b : List Int) : Bool := b.any (fun z => a.contains z)
theorem meets_comm (a b : List Int) : meetsB a b = meetsB b a := by
  unfold meetsB
  rw [Bool.eq_iff_iff, List.any_eq_true, List.any_eq_true]
  constructor
  · rintro ⟨x, h1, h2⟩; exact ⟨x, List.contains_iff_mem.1 h2, List.contains_iff_mem.2 h1⟩
  · rintro ⟨x, h1, h2⟩; exact ⟨x, List.contains_iff_mem.1 h2, List.contains_iff_mem.2 h1⟩
theorem findA_meets (a b : List Int) : decide (0 ≤ idxI (findA a b)) = meetsB a b := by
  cases h : findA a b with
  | none =>
    have h2 : meetsB a b = false := by
      unfold findA at h
      rw [List.findIdx?_eq_none_iff] at h
      unfold meetsB
      rw [List.any_eq_false]
      intro x hx; rw [h x hx]; decide
    rw [h2]; rfl
  | some i =>
    have h2 : meetsB a b = true := by
      unfold findA at h
      rw [List.findIdx?_eq_some_iff_getElem] at h
      obtain ⟨hi, hc, -⟩ := h
      unfold meetsB
      rw [List.any_eq_true]
      exact ⟨b[i], List.getElem_mem hi, hc⟩
    rw [h2]
    exact decide_eq_true (by show (0 : Int) ≤ (i : Int); omega)

set_option maxHeartbeats 4000000 in
theorem closure36 (w : World) (z : Int) (nm mb m : Nat) (D : DataW Unit) (a : List Int) (hx : w.cell? ⟨nm, 0, none⟩ = some (.map (some mb))) (hown : w.ownsMap Try.prog 3 (unitElem (H := Unit)) mb m D) (hD : HasL D a) (hz : (Lit.int .i64 z).wf = true) :
    Calls Try.prog 62 #[.int .i64 z, .pointer (some ⟨nm, 0, none⟩)] w fun e w' => e = .returned (.bool (a.contains z)) ∧ Below w.heap.size w w' := by
  have HB := Lib.hid ((Below.refl w.heap.size w).alloc (Nat.le_refl _) (.cells #[] 113))
  have hkey := key3 hz
  have hhd := hD z
  generalize a.contains z = bz at *
  go_enter Try.func62, Try.ntmps62
  cases bz with
  | true =>
    go_wp2_with (first
      | (at_lookup; refine wpList_lookup_own_unit _ rfl _ _ 112 rfl 3 113 keyed3 Try.underlying112 (zero113 _) mb m _ rfl hown _ _ rfl hkey ?_)
      | fail)
    go_ret
    exact ⟨rfl, HB.out⟩
  | false =>
    go_wp2_with (first
      | (at_lookup; refine wpList_lookup_own_unit _ rfl _ _ 112 rfl 3 113 keyed3 Try.underlying112 (zero113 _) mb m _ rfl hown _ _ rfl hkey ?_)
      | fail)
    go_ret
    exact ⟨rfl, HB.out⟩

set_option maxHeartbeats 4000000 in
theorem index43 (w : World) (nm mb mm : Nat) (D : DataW Unit) (v : Value) (a b : List Int) (h : Rd w w.heap.size v (ivals b)) (hl : b.length ≤ 1000) (hx : w.cell? ⟨nm, 0, none⟩ = some (.map (some mb))) (hnm : nm < w.heap.size) (hmb : mb < w.heap.size)
    (hown : w.ownsMap Try.prog 3 (unitElem (H := Unit)) mb mm D) (hD : HasL D a) (hwb : Wf b) :
    Calls Try.prog 70 #[v, .func (.func 62) #[] #[.pointer (some ⟨nm, 0, none⟩)]] w fun e w' => e = .returned (.int .i64 (idxI (findA a b))) ∧ Below w.heap.size w w' := by
  have HP := Lib.hid h
  obtain ⟨A, c, rfl, -⟩ := h
  simp only [ivals_length] at *
  have HCL : Hid (∀ (W : World) (z : Int), Below w.heap.size w W → (Lit.int .i64 z).wf = true → Calls Try.prog 62 #[.int .i64 z, .pointer (some ⟨nm, 0, none⟩)] W fun e w' => e = .returned (.bool (a.contains z)) ∧ Below W.heap.size W w') := fun W z hW hz =>
    closure36 W z nm mb mm D a ((hW.cell (p := ⟨nm, 0, none⟩) hnm).trans hx) (below_map hown hW hmb) hD hz
  have HWB := Lib.hid hwb
  clear hx hown hD hnm hmb hwb
  obtain ⟨r, hr⟩ : ∃ r, idxI (findA a b) = r := ⟨_, rfl⟩
  rw [hr]
  have HR := Lib.hid hr
  clear hr
  obtain ⟨m, hm⟩ : ∃ m, b.length = m := ⟨_, rfl⟩
  rw [hm] at HP hl ⊢
  have HM := Lib.hid hm
  clear hm
  obtain ⟨B0, hB0⟩ : ∃ n, n = w.heap.size := ⟨_, rfl⟩
  rw [← hB0] at HP HCL
  have HB0 := Lib.hid hB0
  clear hB0
  go_enter Try.func70, Try.ntmps70
  go_wp2_with fail
  go_loopw [8] (fun k wr => ∃ i : Nat, i ≤ m ∧ k = .int .i64 i ∧ Hid ((∀ j (hj : j < b.length), j < i → a.contains b[j] = false) ∧ Below B0 w wr)) (fun k _ => m - (RowKit.intOf k).toNat)
  case atStart => exact ⟨0, Nat.zero_le _, rfl, fun j _ hj => absurd hj (by omega), Below.refl _ _⟩
  case round =>
    obtain ⟨i, hi, rfl, HJ⟩ := hrel
    by_cases hlt : i < m
    · have him : i < b.length := by have := HM.out; omega
      obtain ⟨bb, o, rfl, hb, c0⟩ := (HP.out.below HJ.out.2 (Nat.le_refl _)).at (i := i) (u := .int .i64 b[i]) (ivals_get b i him)
      have HQ1 : Hid (a.contains b[i] = true → r = (i : Int)) := fun e => by rw [← HR.out, findA_at him e HJ.out.1]; rfl
      have HQ2 : Hid (a.contains b[i] = false → ∀ j (hj : j < b.length), j < i + 1 → a.contains b[j] = false) := fun e j hj hji => by
        rcases Nat.lt_or_ge j i with c | c
        · exact HJ.out.1 j hj c
        · obtain rfl : j = i := by omega
          exact e
      have HWZ : Hid ((Lit.int .i64 b[i]).wf = true) := HWB.out _ (List.getElem_mem _)
      generalize b[i] = z at *
      go_wp2_with fail
      refine (HCL.out wr z HJ.out.2 HWZ.out).mono ?_; rintro e w1 ⟨rfl, hb1⟩
      have HB1 : Hid (Below B0 w w1) := HJ.out.2.trans (hb1.mono (by have := HJ.out.2.size; have := HB0.out; omega))
      clear hb1 c0
      cases hz : a.contains z with
      | true =>
        have HF := Lib.hid (HQ1.out hz)
        clear hz HQ1 HQ2
        go_wp2_with fail
        go_ret
        exact ⟨ret_int HF.out.symm, by rw [← HB0.out]; exact HB1.out⟩
      | false =>
        have HN2 := Lib.hid (HQ2.out hz)
        clear hz HQ1 HQ2
        go_wp2_with fail
        go_roundw
        case rel => exact ⟨i + 1, by omega, by go_num, HN2.out, HB1.out⟩
        case measure => simp [RowKit.intOf]; omega
    · have HF : Hid (r = -1) := by
        show _ = _
        rw [← HR.out, findA_none fun j hj => HJ.out.1 j hj (by have := HM.out; omega)]; rfl
      go_wp2_with fail
      go_ret
      exact ⟨ret_int HF.out.symm, by rw [← HB0.out]; exact HJ.out.2⟩

set_option maxHeartbeats 4000000 in
theorem contains35 (w : World) (nm mb mm : Nat) (D : DataW Unit) (v : Value) (a b : List Int) (h : Rd w w.heap.size v (ivals b)) (hl : b.length ≤ 1000) (hx : w.cell? ⟨nm, 0, none⟩ = some (.map (some mb))) (hnm : nm < w.heap.size) (hmb : mb < w.heap.size)
    (hown : w.ownsMap Try.prog 3 (unitElem (H := Unit)) mb mm D) (hD : HasL D a) (hwb : Wf b) :
    Calls Try.prog 61 #[v, .func (.func 62) #[] #[.pointer (some ⟨nm, 0, none⟩)]] w fun e w' => e = .returned (.bool (meetsB a b)) ∧ Below w.heap.size w w' := by
  have HI := Lib.hid (index43 w nm mb mm D v a b h hl hx hnm hmb hown hD hwb)
  have HF := Lib.hid (findA_meets a b)
  clear h hx hown hD hwb hnm hmb
  generalize idxI (findA a b) = r at *
  generalize meetsB a b = mb2 at *
  go_enter Try.func61, Try.ntmps61
  go_wp2_with fail
  refine HI.out.mono ?_; rintro e w1 ⟨rfl, hb1⟩
  have HB1 := Lib.hid hb1
  clear hb1 HI
  by_cases h0 : 0 ≤ r
  · have HQ : Hid (true = mb2) := by show _ = _; rw [← HF.out]; exact (decide_eq_true h0).symm
    clear HF
    go_wp2_with fail
    go_ret
    exact ⟨ret_bool HQ.out, HB1.out⟩
  · have HQ : Hid (false = mb2) := by show _ = _; rw [← HF.out]; exact (decide_eq_false h0).symm
    clear HF
    go_wp2_with fail
    go_ret
    exact ⟨ret_bool (by rw [show decide (0 ≤ r) = false from decide_eq_false (by omega)]; exact HQ.out), HB1.out⟩

set_option maxHeartbeats 8000000 in
theorem meets_any (w : World) (va vb : Value) (a b : List Int) (ha : Rd w w.heap.size va (ivals a)) (hb : Rd w w.heap.size vb (ivals b)) (hla : a.length ≤ 1000) (hlb : b.length ≤ 1000) (hwa : Wf a) (hwb : Wf b) :
    Calls Try.prog 50 #[va, vb] w (RetL (meetsB a b) w) := by
  have HT := Lib.hid ha; have HU := Lib.hid hb
  have HWA := Lib.hid hwa; have HWB := Lib.hid hwb
  obtain ⟨A, c, rfl, hac, -⟩ := ha
  obtain ⟨A', c', rfl, hac', -⟩ := hb
  simp only [ivals_length] at *
  have HLL : Hid (b.length ≤ 1000) := hlb
  obtain ⟨R, hR⟩ : ∃ R, meetsB a b = R := ⟨_, rfl⟩
  rw [hR]
  have HRR := Lib.hid hR
  have hmm := @run_makeMap Try.prog
  obtain ⟨B, hB⟩ : ∃ B, w.heap.size = B := ⟨_, rfl⟩
  have HM1 : Hid (((w.alloc (.map #[] 0)).alloc (.cells #[.map (some w.heap.size)] 112)).ownsMap Try.prog 3 (unitElem (H := Unit)) w.heap.size 0 (.map [])) := (World.ownsMap_made _ _ _ _).alloc _
  have hb0 := below2 w (.map #[] 0) (.cells #[.map (some w.heap.size)] 112)
  have HB1 := Lib.hid hb0
  have hr := Row.new (w.alloc (.map #[] 0)) 112 #[.map (some w.heap.size)]
  rw [World.size_alloc] at hr
  have HR1 := Lib.hid hr
  have HBE := Lib.hid hB
  clear hR hwa hwb hlb hb0 hr
  rw [hB] at HT HU HM1 HB1 HR1
  go_enter Try.func50, Try.ntmps50
  go_upto_region 2 with (fail)
  obtain ⟨nm, hnm⟩ : ∃ n, B + 1 = n := ⟨_, rfl⟩
  rw [hnm] at HR1 ⊢
  have HNM : Hid (B + 1 = nm) := hnm
  clear hB hnm
  generalize (w.alloc (.map #[] 0)).alloc (.cells #[.map (some B)] 112) = w2 at *
  go_wp2_with fail
  go_loopw [11] (fun i wr => ∃ k : Nat, k ≤ a.length ∧ i = .int .i64 k ∧ Hid (∃ D : DataW Unit, wr.ownsMap Try.prog 3 unitElem B k D ∧ HasL D (a.take k)) ∧ Hid (Row wr nm 112 #[.map (some B)]) ∧ Hid (Below B w wr)) (fun i _ => a.length - (RowKit.intOf i).toNat)
  case atStart => exact ⟨0, Nat.zero_le _, rfl, ⟨_, HM1.out, HasL.nil⟩, HR1.out, HB1.out⟩
  case round =>
    obtain ⟨k, hk, rfl, HM, HR, HB⟩ := hrel
    obtain ⟨D, hown, hD⟩ := HM.out
    have m0 := HR.out.cell 0
    simp only [List.getElem?_toArray, List.getElem?_cons_zero] at m0
    by_cases hk2 : k < a.length
    · obtain ⟨b', o, hA, hbB, q0⟩ := (HT.out.below HB.out (Nat.le_refl _)).at (i := k) (u := .int .i64 a[k]) (ivals_get a k hk2)
      subst hA
      have hkey := key3 (HWA.out a[k] (List.getElem_mem _))
      have HTK : Hid (a.take (k + 1) = a.take k ++ [a[k]]) := List.take_succ_eq_append_getElem hk2
      generalize a[k] = z at *
      go_wp2_with (first
        | (at_mapUpdate; refine wpList_mapUpdate_own _ rfl _ _ _ 112 rfl 3 113 keyed3 Try.underlying112 (unitElem (H := Unit)) B k _ rfl hown (by unfold maxLen; omega) _ _ _ rfl rfl hkey _ [] unitElem_mk ?_; intro w1 hown1 hgrow1)
        | fail)
      have HR3 : Hid (Row w1 nm 112 #[.map (some B)]) := HR.out.grown hgrow1 (by have := HNM.out; simp; omega)
      have HB3 : Hid (Below B w w1) := HB.out.grown hgrow1 (by have := HB.out.size; have := HBE.out; omega) (fun j hj => by injection hj with hj; omega)
      have HM3 : Hid (∃ D : DataW Unit, w1.ownsMap Try.prog 3 unitElem B (k + 1) D ∧ HasL D (a.take (k + 1))) := ⟨_, hown1, by rw [HTK.out]; exact hD.put hown.isMap _ _⟩
      clear hown1 hgrow1 hown m0
      go_wp2_with fail
      go_roundw
      case rel => exact ⟨k + 1, by omega, by go_num, HM3, HR3, HB3⟩
      case measure => simp [RowKit.intOf]; omega
    · have hkt : k = a.length := by omega
      have hD2 : HasL D a := by have := hD; rw [hkt, List.take_length] at this; exact this
      have HCC := Lib.hid (contains35 wr nm B k D (.slice A' b.length c') a b ((HU.out.below HB.out (Nat.le_refl _)).mono (by have := HB.out.size; have := HBE.out; omega) (fun _ _ => rfl)) HLL.out m0 HR.out.lt (by have := HR.out.lt; have := HNM.out; omega) hown hD2 HWB.out)
      clear hkt hown hD hD2 HM m0
      go_wp2_with fail
      refine HCC.out.mono ?_; rintro e w3 ⟨rfl, hb3⟩
      have HB3 : Hid (Below B w w3) := HB.out.trans (hb3.mono (by have := HB.out.size; have := HBE.out; omega))
      clear hb3 HCC
      go_wp2_with fail
      go_ret
      exact ⟨ret_bool HRR.out, by rw [HBE.out]; exact HB3.out⟩

set_option maxHeartbeats 4000000 in
theorem refMeets_any (w : World) (va vb : Value) (a b : List Int) (ha : Rd w w.heap.size va (ivals a)) (hb : Rd w w.heap.size vb (ivals b)) (hla : a.length ≤ 1000) (hlb : b.length ≤ 1000) :
    Calls Try.prog 22 #[va, vb] w (RetL (meetsB b a) w) := by
  have HT := Lib.hid ha; have HU := Lib.hid hb
  obtain ⟨A, c, rfl, -, -⟩ := ha
  obtain ⟨A', c', rfl, -, -⟩ := hb
  simp only [ivals_length] at *
  have HLL : Hid (b.length ≤ 1000) := hlb
  obtain ⟨R, hR⟩ : ∃ R, meetsB b a = R := ⟨_, rfl⟩
  rw [hR]
  have HRR := Lib.hid hR
  obtain ⟨B, hB⟩ : ∃ B, w.heap.size = B := ⟨_, rfl⟩
  have HBE := Lib.hid hB
  clear hR hlb
  rw [hB] at HT HU
  clear hB
  go_enter Try.func22, Try.ntmps22
  go_wp2_with fail
  go_loopw [5] (fun i wr => ∃ k : Nat, k ≤ a.length ∧ i = .int .i64 k ∧ Hid (∀ j (hj : j < a.length), j < k → b.contains a[j] = false) ∧ Hid (∃ n, wr = w.drewN n)) (fun i _ => a.length - (RowKit.intOf i).toNat)
  case atStart => exact ⟨0, Nat.zero_le _, rfl, fun j _ hj => absurd hj (by omega), ⟨0, rfl⟩⟩
  case round =>
    obtain ⟨k, hk, rfl, HN, HW⟩ := hrel
    have HB : Hid (Below B w wr) := by obtain ⟨n, e⟩ := HW.out; rw [e]; exact Below.drewN (by rw [← HBE.out]; exact Below.refl _ _) n
    by_cases hk2 : k < a.length
    · obtain ⟨b', o, hA, hbB, q0⟩ := (HT.out.below HB.out (Nat.le_refl _)).at (i := k) (u := .int .i64 a[k]) (ivals_get a k hk2)
      subst hA
      have HQ1 : Hid (b.contains a[k] = true → R = true) := fun e => by
        rw [← HRR.out]; unfold meetsB; rw [List.any_eq_true]; exact ⟨a[k], List.getElem_mem _, e⟩
      have HQ2 : Hid (b.contains a[k] = false → ∀ j (hj : j < a.length), j < k + 1 → b.contains a[j] = false) := fun e j hj hji => by
        rcases Nat.lt_or_ge j k with c | c
        · exact HN.out j hj c
        · obtain rfl : j = k := by omega
          exact e
      generalize a[k] = z at *
      go_wp2_with fail
      refine (refHas_any wr B _ b z (HU.out.below HB.out (Nat.le_refl _)) (by have := HLL.out; omega)).mono ?_; rintro e w3 ⟨rfl, rfl⟩
      cases hz : b.contains z with
      | true =>
        have HF : Hid (R = true) := HQ1.out hz
        clear hz HQ1 HQ2
        go_wp2_with fail
        go_ret
        exact ⟨ret_bool HF.out.symm, by rw [HBE.out]; exact HB.out⟩
      | false =>
        have HN2 := Lib.hid (HQ2.out hz)
        clear hz HQ1 HQ2
        go_wp2_with fail
        go_roundw
        case rel => exact ⟨k + 1, by omega, by go_num, HN2, HW⟩
        case measure => simp [RowKit.intOf]; omega
    · have HF : Hid (R = false) := by
        show _ = _
        rw [← HRR.out]; unfold meetsB; rw [List.any_eq_false]
        intro x hx
        obtain ⟨j, hj, rfl⟩ := List.getElem_of_mem hx
        rw [HN.out j hj (by omega)]; decide
      go_wp2_with fail
      go_ret
      exact ⟨ret_bool HF.out.symm, by rw [HBE.out]; exact HB.out⟩

end Go.Proofs.Ythnjilbfkfekhaa
