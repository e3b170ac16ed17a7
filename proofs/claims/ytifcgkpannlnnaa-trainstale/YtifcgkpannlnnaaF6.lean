/- Contract: Back. -/
import Derived.Test.YtifcgkpannlnnaaF4
namespace Go.Proofs.Ytifcgkpannlnnaa
open Go.RowKit Fl
set_option maxRecDepth 100000

theorem drop_rev (t : List Int) (i : Nat) (h : i < t.length) : (t.drop i).reverse = (t.drop (i + 1)).reverse ++ [t[i]] := by
  rw [List.drop_eq_getElem_cons h, List.reverse_cons]

set_option maxHeartbeats 4000000 in
theorem refBack_any (w : World) (A : Option Addr) (c : Nat) (t : List Int) (ht : Rd w w.heap.size (.slice A t.length c) (ivals t)) (hl : t.length ≤ 10000) :
    Calls Try.prog 17 #[.slice A t.length c] w (RetOwn w.heap.size t.reverse w) := by
  have HT := Lib.hid ht
  clear ht
  have HD0 : Hid (([] : List Int) = (t.drop t.length).reverse) := by show _ = _; simp
  have HD1 := Lib.hid (drop_rev t)
  have HD2 : Hid ((t.drop 0).reverse = t.reverse) := by show _ = _; simp
  obtain ⟨i3, hi3, hz30, hz31, hz32⟩ := info_parts Try.info3n
  obtain ⟨B, hB⟩ : ∃ B, w.heap.size = B := ⟨_, rfl⟩
  rw [hB] at HT ⊢
  have HBE := Lib.hid hB
  clear hB
  go_enter Try.func17, Try.ntmps17
  go_wp2_with fail
  go_loopw [3, 4] (fun va iv wr => ∃ (i : Nat) (o : List Int), i ≤ t.length ∧ iv = .int .i64 ((i : Int) - 1) ∧ o.length + i ≤ 10000 ∧ Hid (o = (t.drop i).reverse) ∧ Hid (wr.ownsRow B 3 1 va o.length (ivals o)) ∧ Hid (Below B w wr)) (fun _ iv _ => (intOf iv + 1).toNat)
  case atStart => exact ⟨t.length, [], Nat.le_refl _, rfl, by simpa using hl, HD0, World.ownsRow_nil _ _ _ _, Below.refl _ _⟩
  case round =>
    obtain ⟨i, o, hi, rfl, hol, HOE, HO, HB⟩ := hrel
    obtain ⟨Av, cv, hv⟩ := own_slice HO.out
    subst hv
    have HSZ : Hid (B ≤ wr.heap.size) := by have := HB.out.size; have := HBE.out; show B ≤ _; omega
    rcases Nat.eq_zero_or_pos i with h0 | h0
    · subst h0
      have HE : Hid (o = t.reverse) := by show _ = _; rw [HOE.out]; exact HD2.out
      go_wp2_with fail
      go_ret
      rw [← HE.out]
      exact ⟨_, rfl, HO.out, HB.out⟩
    · obtain ⟨j, rfl⟩ : ∃ j, i = j + 1 := ⟨i - 1, by omega⟩
      have hj : j < t.length := by omega
      obtain ⟨b, o', hA, hbB, q0⟩ := (HT.out.below HB.out (Nat.le_refl _)).at (i := j) (u := .int .i64 t[j]) (ivals_get t j hj)
      subst hA
      have HN : Hid (o ++ [t[j]] = (t.drop j).reverse) := by show _ = _; rw [HD1.out j hj, HOE.out]
      have hjj : ((j + 1 : Nat) : Int) - 1 = (j : Int) := by omega
      rw [hjj]
      generalize t[j] = z at *
      have HSN : Hid (ivals o ++ [.int .i64 z] = ivals (o ++ [z]) ∧ (o ++ [z]).length = o.length + 1) := ⟨ivals_snoc' o z, by simp⟩
      clear HOE h0 hjj
      go_wp2_with (first
        | (at_builtin; refine wpList_append_own _ rfl (.tmp 12) (.tmp 17) 40 rfl B 3 i3 (.int .i64 0) 1 8 Try.underlying40 hi3 hz30 hz31 hz32 rfl (by decide) _ _ _ rfl (HO.out.alloc _) ⟨wr.heap.size, 0, none⟩ 1 1 [.int .i64 z] rfl rfl (one_new wr 3 _) (one_cell rfl) (by unfold maxLen; omega) (by omega) (by have := HSZ.out; simp; omega) ?_; intro v7 w7 hown7 hgrow7 _)
        | fail)
      rw [HSN.out.1] at hown7
      have HB7 : Hid (Below B w w7) := (HB.out.alloc HSZ.out _).grown hgrow7 (by simp; have := HSZ.out; omega) (fun j hj => (HO.out.lt j hj).1)
      have HO7 : Hid (w7.ownsRow B 3 1 v7 (o ++ [z]).length (ivals (o ++ [z]))) := by rw [HSN.out.2]; exact hown7
      go_roundw
      case rel => exact ⟨j, o ++ [z], by omega, by go_num, by rw [HSN.out.2]; omega, HN, HO7, HB7⟩
      case measure => simp [intOf]

end Go.Proofs.Ytifcgkpannlnnaa
