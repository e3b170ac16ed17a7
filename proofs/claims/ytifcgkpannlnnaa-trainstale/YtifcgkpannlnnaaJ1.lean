/- Contracts: what is behind a trail. -/
import Derived.Test.YtifcgkpannlnnaaGB
import Derived.Test.YtifcgkpannlnnaaRA
import Derived.Test.YtifcgkpannlnnaaJMath
namespace Go.Proofs.Ytifcgkpannlnnaa
open Go.RowKit Fl
set_option maxRecDepth 100000

theorem ivals_length (xs : List Int) : (ivals xs).length = xs.length := by simp [ivals]
theorem ivals_get (xs : List Int) (i : Nat) (h : i < xs.length) : (ivals xs)[i]? = some (.int .i64 xs[i]) := by simp [ivals, h]
theorem ivals_drop (xs : List Int) (i : Nat) : ivals (xs.drop i) = (ivals xs).drop i := by simp [ivals]
theorem ivals_at {xs : List Int} {i : Nat} {u : Value} (h : (ivals xs)[i]? = some u) : ∃ h2 : i < xs.length, u = .int .i64 xs[i] := by
  have h2 : i < xs.length := by have := (List.getElem?_eq_some_iff.1 h).1; rwa [ivals_length] at this
  rw [ivals_get xs i h2] at h; injection h with h; exact ⟨h2, h.symm⟩

/-- The elements from one on. -/
theorem Rd.from {w : World} {D b o c : Nat} {xs : List Int} {i : Nat} (hc : xs.length ≤ c) (hb : b < D) (h : ∀ j u, (ivals xs)[j]? = some u → w.cell? ⟨b, o + j, none⟩ = some u) : Rd w D (.slice (some ⟨b, o + i, none⟩) (xs.length - i) (c - i)) (ivals (xs.drop i)) := by
  refine ⟨some ⟨b, o + i, none⟩, c - i, by simp [ivals], ⟨(fun e => by cases e), by simp [ivals]; omega⟩, fun _ => ⟨b, o + i, rfl, hb, fun j u hu => ?_⟩⟩
  rw [Nat.add_assoc]
  refine h (i + j) u ?_
  rw [ivals_drop, List.getElem?_drop] at hu
  exact hu

set_option maxHeartbeats 4000000 in
theorem behind_any (w : World) (D : Nat) (vt vw : Value) (t was : List Int) (ht : Rd w D vt (ivals t)) (hw : Rd w D vw (ivals was)) (hl : was.length ≤ 100000) (hlt : t.length ≤ 100000) :
    Calls Try.prog 39 #[vt, vw] w fun e w' => ∃ v, e = .returned v ∧ Rd w D v (ivals (was.drop (fromL t was))) ∧ w' = w := by
  have HT := Lib.hid ht; have HW := Lib.hid hw
  obtain ⟨A, c, rfl, ⟨hc0, hc1⟩, hct⟩ := ht
  obtain ⟨A', c', rfl, ⟨hc0', hc1'⟩, hcw⟩ := hw
  simp only [ivals_length] at *
  rcases Nat.eq_zero_or_pos t.length with h0 | h0
  · have h1 : t = [] := List.length_eq_zero_iff.1 h0
    subst h1
    have HF : Hid (Rd w D (.slice A' was.length c') (ivals (was.drop (fromL [] was)))) := HW.out
    clear hct hcw HT HW
    go_enter Try.func39, Try.ntmps39
    go_wp2_with fail
    go_ret
    exact ⟨_, rfl, HF.out, rfl⟩
  · obtain ⟨b, o, rfl, hb, hcc⟩ := hct h0
    have q0 : w.cell? ⟨b, o + (t.length - 1), none⟩ = some (.int .i64 (t.getD (t.length - 1) 0)) := by
      refine hcc _ _ ?_
      rw [ivals_get t (t.length - 1) (by omega)]
      simp [List.getD, List.getElem?_eq_getElem (show t.length - 1 < t.length by omega)]
    have HIX := Lib.hid (fromL_idx t was h0)
    have HLE := Lib.hid (fromL_le t was)
    have HC := Lib.hid hcc
    obtain ⟨x, hx⟩ : ∃ x, t.getD (t.length - 1) 0 = x := ⟨_, rfl⟩
    obtain ⟨i, hi⟩ : ∃ i, fromL t was = i := ⟨_, rfl⟩
    obtain ⟨k, hk⟩ : ∃ k, Lib.idxOf (was.take was.length) x = k := ⟨_, rfl⟩
    rw [hx] at q0 HIX
    rw [hi] at HIX HLE ⊢
    rw [hk] at HIX
    have HK := Lib.hid hk
    obtain ⟨n, hn⟩ : ∃ n, t.length = n := ⟨_, rfl⟩
    rw [hn] at q0 h0 hc1 hlt ⊢
    have hk1 : k = (i : Int) - 1 := by have := HIX.out; omega
    have hile := HLE.out
    have hz1 : ¬ n = 0 := by omega
    have hz2 : ((n : Int) == 0) = false := by simp; omega
    have hm0 : (0 : Int) ≤ (n : Int) - 1 := by omega
    have hm1 : (n : Int) - 1 < (n : Int) := by omega
    clear hcc hct hx hi hk hn HT HC hc0
    rcases Nat.eq_zero_or_pos was.length with w0 | w0
    · have hwn : was = [] := List.length_eq_zero_iff.1 w0
      subst hwn
      have hi0 : i = 0 := by have := HLE.out; simpa using this
      subst hi0
      have hk2 : Lib.idxOf [] x = -1 := by have := HK.out; rw [hk1] at this; simpa using this
      have HF : Hid (Rd w D (.slice A' 0 c') (ivals [])) := HW.out
      clear hcw HIX HLE HK hk1 hile
      go_enter Try.func39, Try.ntmps39
      go_wp2_with fail
      refine (Try.slices_Index_int_empty A' c' x w).mono ?_; rintro e w1 ⟨rfl, rfl⟩
      rw [hk2]
      cases A' with
      | none =>
        have : c' = 0 := hc0' rfl
        subst this
        go_wp2_with fail
        go_ret
        exact ⟨_, rfl, HF.out, rfl⟩
      | some ad =>
        go_wp2_with fail
        go_ret
        exact ⟨_, rfl, HF.out, rfl⟩
    · obtain ⟨b', o', rfl, hb', hcc'⟩ := hcw w0
      have HF : Hid (Rd w D (.slice (some ⟨b', o' + i, none⟩) (was.length - i) (c' - i)) (ivals (was.drop i))) := Rd.from hc1' hb' hcc'
      have hcd : ∀ j, j < was.length → w.cell? ⟨b', o' + j, none⟩ = some (.int .i64 (was.getD j 0)) := fun j hj => by
        refine hcc' j _ ?_
        rw [ivals_get was j hj]
        simp [List.getD, List.getElem?_eq_getElem hj]
      have HX := Lib.hid (Try.slices_Index_int b' o' was.length c' was x w (Nat.le_refl _) (by omega) hcd)
      have hk2 : Lib.idxOf (was.take was.length) x = (i : Int) - 1 := by have := HK.out; omega
      rw [hk2] at HX
      have HZ : Hid (was.length = i → ivals (was.drop i) = []) := fun e => by rw [← e, List.drop_length]; rfl
      generalize was.length = m at *
      clear hcd hcc' hcw HW HIX HLE HK hk2 hk1 hb'
      by_cases hci : c' = i
      · subst hci
        have hmi : m = c' := by omega
        have hz := HZ.out hmi
        subst hmi
        rw [hz]
        clear HF HZ
        go_enter Try.func39, Try.ntmps39
        go_wp2_with fail
        refine HX.out.mono ?_; rintro e w1 ⟨rfl, rfl⟩
        go_wp2_with fail
        go_ret
        exact ⟨_, rfl, ⟨_, _, rfl, ⟨(fun e => by cases e), Nat.zero_le _⟩, fun h => absurd h (by simp)⟩, rfl⟩
      · go_enter Try.func39, Try.ntmps39
        go_wp2_with fail
        refine HX.out.mono ?_; rintro e w1 ⟨rfl, rfl⟩
        go_wp2_with fail
        go_ret
        exact ⟨_, rfl, HF.out, rfl⟩

end Go.Proofs.Ytifcgkpannlnnaa
