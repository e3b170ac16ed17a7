/- Contracts: a trail, and what may be behind it: the program's. -/
import Derived.Test.YtifcgkpannlnnaaJ1
import Derived.Maps.OwnSet
namespace Go.Proofs.Ytifcgkpannlnnaa
open Go.RowKit Fl Go.Maps
set_option maxRecDepth 100000

theorem keyed3 : Keyed Try.prog 3 := int_keyed Try.underlying3
theorem zero89 (w : World) : (zeroValue 89).run Try.prog w = .ok (.agg #[]) w := by kernel_rfl
/-- Numbers of 64 bits. -/
def Wf (xs : List Int) : Prop := ∀ n ∈ xs, (Lit.int .i64 n).wf = true
theorem key3 {n : Int} (h : (Lit.int .i64 n).wf = true) : keyOf Try.prog 3 (.int .i64 n) = some (.int .i64 n) := keyOf_int_mk Try.underlying3 h

/-- A map whose keys are just the numbers of a list. -/
def HasL {H : Type} (D : DataW H) (o : List Int) : Prop := ∀ x, Maps.has D (.int .i64 x) = o.contains x
theorem HasL.nil {H : Type} : HasL (.map [] : DataW H) [] := fun _ => rfl
theorem HasL.put {H : Type} {D : DataW H} {o : List Int} (h : HasL D o) (hD : IsMap D) (n : Int) (d : DataW H) : HasL (D.put (.int .i64 n) d) (o ++ [n]) := fun x => by
  by_cases e : x = n
  · subst e
    rw [has_put_same (k := .int .i64 x) hD (show WideAt.IsKeyLit (.int .i64 x) from trivial) d]
    exact (List.contains_iff_mem.2 (by simp)).symm
  · rw [has_put_other (fun c => e (by injection c)), h x, Bool.eq_iff_iff, List.contains_iff_mem, List.contains_iff_mem]
    simp [e]
theorem own_map_ne {H : Type} {w : World} {base : Nat} {e : TypeId} {size n : Nat} {v : Value} {xs : List Value} {P : Program} {k : TypeId} {R : Value → Option (DataW H × List MemPlace)} {b m : Nat} {D : DataW H} (h : w.ownsRow base e size v n xs) (hm : w.ownsMap P k R b m D) : some b ≠ v.ownBlock := by
  obtain ⟨es, clock, hb, _⟩ := hm
  rcases h.2 with ⟨rfl, _⟩ | ⟨g, cap, cur, rfl, _, hh, _⟩
  · simp [Value.ownBlock]
  · intro he
    have : b = g := by simpa [Value.ownBlock] using he
    subst this
    rw [hb] at hh; cases hh
theorem below_map {H : Type} {w w' : World} {P : Program} {k : TypeId} {R : Value → Option (DataW H × List MemPlace)} {b m B : Nat} {D : DataW H} (hm : w.ownsMap P k R b m D) (hb : Below B w w') (hB : b < B) : w'.ownsMap P k R b m D := by
  obtain ⟨es, clock, h, r⟩ := hm
  exact ⟨es, clock, (hb.block b hB).trans h, r⟩

set_option maxHeartbeats 8000000 in
theorem join_any (w : World) (vt vw : Value) (t was : List Int) (ht : Rd w w.heap.size vt (ivals t)) (hw : Rd w w.heap.size vw (ivals was)) (hl : was.length ≤ 10000) (hlt : t.length ≤ 10000) (hwt : Wf t) (hww : Wf was) :
    Calls Try.prog 19 #[vt, vw] w (RetOwn w.heap.size (joinL t was) w) := by
  have HT := Lib.hid ht; have HW := Lib.hid hw
  have HWT := Lib.hid hwt
  have HWW : Hid (Wf (was.drop (fromL t was))) := fun n hn => hww n (List.mem_of_mem_drop hn)
  obtain ⟨A, c, rfl, hac, -⟩ := ht
  obtain ⟨A', c', rfl, hac', -⟩ := hw
  simp only [ivals_length] at *
  have HLB : Hid ((was.drop (fromL t was)).length ≤ 10000) := by show _ ≤ _; simp; omega
  have HEND := Lib.hid (joinTo_end t was)
  obtain ⟨bs, hbs⟩ : ∃ bs, was.drop (fromL t was) = bs := ⟨_, rfl⟩
  obtain ⟨R, hR⟩ : ∃ R, joinL t was = R := ⟨_, rfl⟩
  rw [hbs] at HWW HLB HEND
  rw [hR] at HEND ⊢
  have HBS := Lib.hid hbs
  have hmm := @run_makeMap Try.prog
  obtain ⟨i3, hi3, hz30, hz31, hz32⟩ := info_parts Try.info3n
  obtain ⟨B, hB⟩ : ∃ B, w.heap.size = B := ⟨_, rfl⟩
  rw [hB] at HT HW ⊢
  have HBE := Lib.hid hB
  clear hR hbs hwt hww hB
  go_enter Try.func19, Try.ntmps19
  go_wp2_with fail
  refine (clone38 w B _ t HT.out (by omega)).mono ?_; rintro e w1 ⟨v1, rfl, ho, hb⟩
  rw [HBE.out] at ho hb
  obtain ⟨A1, c1, hv1⟩ := own_slice ho
  subst hv1
  have HO1 := Lib.hid ho
  have HB1 := Lib.hid hb
  clear ho hb
  have HM1 : Hid ((w1.alloc (.map #[] 0)).ownsMap Try.prog 3 (unitElem (H := Unit)) w1.heap.size 0 (.map [])) := World.ownsMap_made _ _ _ _
  have HO2 := Lib.hid (HO1.out.alloc (.map #[] 0))
  have HB2 : Hid (Below B w (w1.alloc (.map #[] 0))) := HB1.out.alloc (by have := HB1.out.size; have := HBE.out; omega) _
  have HMB : Hid (B ≤ w1.heap.size) := by have := HB1.out.size; have := HBE.out; show B ≤ _; omega
  go_upto_region 4 with (fail)
  obtain ⟨mb, hmb⟩ : ∃ mb, w1.heap.size = mb := ⟨_, rfl⟩
  rw [hmb] at HM1 HMB ⊢
  clear HO1 HB1 hmb
  generalize w1.alloc (.map #[] 0) = w2 at *
  go_wp2_with fail
  go_loopw [18] (fun i wr => ∃ k : Nat, k ≤ t.length ∧ i = .int .i64 k ∧ Hid (∃ D : DataW Unit, wr.ownsMap Try.prog 3 unitElem mb k D ∧ HasL D (t.take k)) ∧ Hid (wr.ownsRow B 3 1 (.slice A1 t.length c1) t.length (ivals t)) ∧ Hid (Below B w wr)) (fun i _ => t.length - (intOf i).toNat)
  case atStart => exact ⟨0, Nat.zero_le _, rfl, ⟨_, HM1.out, HasL.nil⟩, HO2, HB2⟩
  case round =>
    obtain ⟨k, hk, rfl, HM, HO, HB⟩ := hrel
    obtain ⟨D, hown, hD⟩ := HM.out
    by_cases hk2 : k < t.length
    · obtain ⟨b, o, hA, hbB, q0⟩ := (HT.out.below HB.out (Nat.le_refl _)).at (i := k) (u := .int .i64 t[k]) (ivals_get t k hk2)
      subst hA
      have hkey := key3 (HWT.out t[k] (List.getElem_mem _))
      have HTK : Hid (t.take (k + 1) = t.take k ++ [t[k]]) := List.take_succ_eq_append_getElem hk2
      generalize t[k] = z at *
      go_wp2_with (first
        | (at_mapUpdate; refine wpList_mapUpdate_own _ rfl _ _ _ 88 rfl 3 89 keyed3 Try.underlying88 (unitElem (H := Unit)) mb k _ rfl hown (by unfold maxLen; omega) _ _ _ rfl rfl hkey _ [] unitElem_mk ?_; intro w1 hown1 hgrow1)
        | fail)
      have HO3 := Lib.hid (HO.out.kept hgrow1 (.inr (own_map_ne HO.out hown).symm))
      have HB3 : Hid (Below B w w1) := HB.out.grown hgrow1 (by have := HB.out.size; have := HBE.out; omega) (fun j hj => by injection hj with hj; have := HMB.out; omega)
      have HM3 : Hid (∃ D : DataW Unit, w1.ownsMap Try.prog 3 unitElem mb (k + 1) D ∧ HasL D (t.take (k + 1))) := ⟨_, hown1, by rw [HTK.out]; exact hD.put hown.isMap _ _⟩
      clear hown1 hgrow1 hown
      go_wp2_with fail
      go_roundw
      case rel => exact ⟨k + 1, by omega, by go_num, HM3, HO3, HB3⟩
      case measure => simp [intOf]; omega
    · have hkt : k = t.length := by omega
      have hD2 : HasL D t := by have := hD; rw [hkt, List.take_length] at this; exact this
      have HM0 : Hid (∃ D : DataW Unit, wr.ownsMap Try.prog 3 unitElem mb k D ∧ HasL D t) := ⟨D, hown, hD2⟩
      clear hkt
      have HSZ : Hid (B ≤ wr.heap.size) := by have := HB.out.size; have := HBE.out; show B ≤ _; omega
      have HC2 := behind_any wr B _ _ t was (HT.out.below HB.out (Nat.le_refl _)) (HW.out.below HB.out (Nat.le_refl _)) (by omega) (by omega)
      rw [HBS.out] at HC2
      have HC3 := Lib.hid HC2
      clear HC2 hown hD hD2 HM
      go_wp2_with fail
      refine HC3.out.mono ?_; rintro e w3 ⟨vb, rfl, hrb, rfl⟩
      have HRW : Hid (Rd w B vb (ivals bs)) := hrb.mono (Nat.le_refl _) fun p hp => (HB.out.cell hp).symm
      obtain ⟨Ab, cb, rfl, -, -⟩ := hrb
      simp only [ivals_length] at *
      have hbl := HLB.out
      clear HC3
      go_wp2_with fail
      go_loopw [5, 30] (fun va i wr => ∃ (k : Nat) (o : List Int), k ≤ bs.length ∧ i = .int .i64 k ∧ o.length ≤ 10000 + k ∧ Hid (o = joinTo t bs k) ∧ Hid (∃ (m : Nat) (D : DataW Unit), m ≤ 10000 + k ∧ wr.ownsMap Try.prog 3 unitElem mb m D ∧ HasL D o) ∧ Hid (wr.ownsRow B 3 1 va o.length (ivals o)) ∧ Hid (Below B w wr)) (fun _ i _ => bs.length - (intOf i).toNat)
      case atStart => exact ⟨0, t, Nat.zero_le _, rfl, by omega, rfl, (by obtain ⟨D, h1, h2⟩ := HM0.out; exact ⟨k, D, by omega, h1, h2⟩), HO, HB⟩
      case round =>
        obtain ⟨k, o, hk, rfl, hol, HOE, HM, HO, HB⟩ := hrel
        obtain ⟨Av, cv, hv⟩ := own_slice HO.out
        subst hv
        by_cases hk2 : k < bs.length
        · obtain ⟨m, D, hm, hown, hD⟩ := HM.out
          obtain ⟨b, o', hA, hbB, q0⟩ := (HRW.out.below HB.out (Nat.le_refl _)).at (i := k) (u := .int .i64 bs[k]) (ivals_get bs k hk2)
          subst hA
          have hkey := key3 (HWW.out bs[k] (List.getElem_mem _))
          have HN : Hid (joinTo t bs (k + 1) = addL o bs[k]) := by show _ = _; rw [joinTo_succ t bs k hk2, HOE.out]
          generalize bs[k] = z at *
          have HSZ2 : Hid (B ≤ wr.heap.size) := by have := HB.out.size; have := HBE.out; show B ≤ _; omega
          have hhd := hD z
          cases hc : o.contains z with
          | true =>
            rw [hc] at hhd
            have HO3 := Lib.hid (HO.out.alloc (.cells #[] 89))
            have HB3 : Hid (Below B w (wr.alloc (.cells #[] 89))) := HB.out.alloc HSZ2.out _
            have HM3 : Hid (∃ (m : Nat) (D : DataW Unit), m ≤ 10000 + (k + 1) ∧ (wr.alloc (.cells #[] 89)).ownsMap Try.prog 3 unitElem mb m D ∧ HasL D o) := ⟨m, D, by omega, hown.alloc _, hD⟩
            have HN2 : Hid (o = joinTo t bs (k + 1)) := by show _ = _; rw [HN.out, addL, if_pos hc]
            clear hc HN HOE HM
            go_wp2_with (first
              | (at_lookup; refine wpList_lookup_own_unit _ rfl _ _ 88 rfl 3 89 keyed3 Try.underlying88 (zero89 _) mb m _ rfl hown _ _ rfl hkey ?_)
              | fail)
            go_roundw
            case rel => exact ⟨k + 1, o, by omega, by go_num, by omega, HN2, HM3, HO3, HB3⟩
            case measure => simp [intOf]; omega
          | false =>
            rw [hc] at hhd
            have HN2 : Hid (o ++ [z] = joinTo t bs (k + 1)) := by show _ = _; rw [HN.out, addL, if_neg (by rw [hc]; decide)]
            have HOA := Lib.hid (HO.out.alloc (.cells #[] 89))
            have HBA : Hid (Below B w (wr.alloc (.cells #[] 89))) := HB.out.alloc HSZ2.out _
            have HSN : Hid (ivals o ++ [.int .i64 z] = ivals (o ++ [z]) ∧ (o ++ [z]).length = o.length + 1) := ⟨ivals_snoc' o z, by simp⟩
            clear hc HN HOE HM
            go_wp2_with (first
              | (at_lookup; refine wpList_lookup_own_unit _ rfl _ _ 88 rfl 3 89 keyed3 Try.underlying88 (zero89 _) mb m _ rfl hown _ _ rfl hkey ?_)
              | (at_mapUpdate; refine wpList_mapUpdate_own _ rfl _ _ _ 88 rfl 3 89 keyed3 Try.underlying88 (unitElem (H := Unit)) mb m _ rfl (hown.alloc _) (by unfold maxLen; omega) _ _ _ rfl rfl hkey _ [] unitElem_mk ?_; intro w1 hown1 hgrow1)
              | (at_builtin; refine wpList_append_own _ rfl (.tmp 45) (.tmp 47) 40 rfl B 3 i3 (.int .i64 0) 1 8 Try.underlying40 hi3 hz30 hz31 hz32 rfl (by decide) _ _ _ rfl ((HOA.out.kept hgrow1 (.inr (own_map_ne HOA.out (hown.alloc _)).symm)).alloc _) ⟨w1.heap.size, 0, none⟩ 1 1 [.int .i64 z] rfl rfl (one_new w1 3 _) (one_cell rfl) (by unfold maxLen; omega) (by omega) (by have := HBA.out.size; have := hgrow1.size; have := HBE.out; simp; omega) ?_; intro v7 w7 hown7 hgrow7 _)
              | fail)
            have HO1 := Lib.hid (HOA.out.kept hgrow1 (.inr (own_map_ne HOA.out (hown.alloc _)).symm))
            have HB1 : Hid (Below B w w1) := HBA.out.grown hgrow1 (by have := HBA.out.size; have := HBE.out; omega) (fun j hj => by injection hj with hj; have := HMB.out; omega)
            have HH1 : Hid (HasL (D.put (.int .i64 z) (.agg [])) (o ++ [z])) := hD.put hown.isMap _ _
            have HSZ3 : Hid (B ≤ w1.heap.size) := by have := HB1.out.size; have := HBE.out; show B ≤ _; omega
            have HW1 := Lib.hid hown1
            rw [HSN.out.1] at hown7
            have HB7 : Hid (Below B w w7) := (HB1.out.alloc HSZ3.out _).grown hgrow7 (by simp; have := HSZ3.out; omega) (fun j hj => (HO1.out.lt j hj).1)
            have HM7 : Hid (∃ (m : Nat) (D : DataW Unit), m ≤ 10000 + (k + 1) ∧ w7.ownsMap Try.prog 3 unitElem mb m D ∧ HasL D (o ++ [z])) := ⟨m + 1, _, by omega, (HW1.out.alloc _).kept hgrow7 (own_map_ne HO1.out HW1.out), HH1.out⟩
            have HO7 : Hid (w7.ownsRow B 3 1 v7 (o ++ [z]).length (ivals (o ++ [z]))) := by rw [HSN.out.2]; exact hown7
            go_roundw
            case rel => exact ⟨k + 1, o ++ [z], by omega, by go_num, by rw [HSN.out.2]; omega, HN2, HM7, HO7, HB7⟩
            case measure => simp [intOf]; omega
        · have HE : Hid (o = R) := by show _ = _; rw [HOE.out]; exact HEND.out k (by omega)
          go_wp2_with fail
          go_ret
          rw [← HE.out]
          exact ⟨_, rfl, HO.out, HB.out⟩

end Go.Proofs.Ytifcgkpannlnnaa
