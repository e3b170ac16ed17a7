/- Contracts of own: owner, together, isClear, alone, find, isIn. -/
import Derived.Test.YthnjilbfkfekhaaO1
namespace Go.Proofs.Ythnjilbfkfekhaa
open Go.RowKit Fl
set_option maxRecDepth 100000

theorem owner_any (w : World) (D : Nat) (v : Value) (was : List Int) (p : Nat) (h : Rd w D v (ivals was)) (hp : p < was.length) :
    Calls Try.prog 43 #[v, .int .i64 (p : Int)] w fun e w' => e = .returned (.int .i64 (was.getD p 0)) ∧ w = w' := by
  have hg : was.getD p 0 = was[p] := by simp [List.getD, hp]
  rw [hg]
  obtain ⟨A, c, rfl, -, -⟩ := id h
  obtain ⟨b, o, hA, -, q0⟩ := h.at (i := p) (u := .int .i64 was[p]) (by simp [ivals, hp])
  subst hA
  have hil : (ivals was).length = was.length := by simp [ivals]
  rw [hil] at *
  generalize was[p] = x at *
  have hn : ¬ (was.length : Int) ≤ (p : Int) := by omega
  have hn2 : ¬ was.length ≤ p := by omega
  generalize was.length = m at *
  clear h hg hil
  go_enter Try.func43, Try.ntmps43
  go_wp2_with fail
  go_ret
  exact ⟨rfl, rfl⟩

theorem together_any (w : World) (a b : Int) :
    Calls Try.prog 44 #[.int .i64 a, .int .i64 b] w fun e w' => e = .returned (.int .i64 (togO a b)) ∧ w = w' := by
  unfold togO
  by_cases h1 : a = -2
  · rw [if_pos h1]
    subst h1
    go_enter Try.func44, Try.ntmps44
    go_wp2_with fail
    go_ret
    exact ⟨rfl, rfl⟩
  · rw [if_neg h1]
    have e1 : (a == -2) = false := by simpa using h1
    by_cases h2 : b = -2
    · rw [if_pos (Or.inl h2)]
      have e2 : (b == -2) = true := by simpa using h2
      go_enter Try.func44, Try.ntmps44
      go_wp2_with fail
      go_ret
      exact ⟨rfl, rfl⟩
    · have e2 : (b == -2) = false := by simpa using h2
      by_cases h3 : a = b
      · rw [if_pos (Or.inr h3)]
        have e3 : (a == b) = true := by simpa using h3
        go_enter Try.func44, Try.ntmps44
        go_wp2_with fail
        go_ret
        exact ⟨rfl, rfl⟩
      · rw [if_neg (by rintro (h | h); exact h2 h; exact h3 h)]
        have e3 : (a == b) = false := by simpa using h3
        go_enter Try.func44, Try.ntmps44
        go_wp2_with fail
        go_ret
        exact ⟨rfl, rfl⟩

theorem isClear_any (w : World) (D : Nat) (v : Value) (clr : List Bool) (p : Nat) (h : Rd w D v (cvals clr)) (hp : p < clr.length) :
    Calls Try.prog 31 #[v, .int .i64 (p : Int)] w fun e w' => e = .returned (.bool (clr.getD p false)) ∧ w = w' := by
  have hg : clr.getD p false = clr[p] := by simp [List.getD, hp]
  rw [hg]
  obtain ⟨A, c, rfl, -, -⟩ := id h
  obtain ⟨b, o, hA, -, q0⟩ := h.at (i := p) (u := .bool clr[p]) (by simp [cvals, hp])
  subst hA
  have hil : (cvals clr).length = clr.length := by simp [cvals]
  rw [hil] at *
  generalize clr[p] = x at *
  have hn : (p : Int) < (clr.length : Int) := by omega
  generalize clr.length = m at *
  clear h hg hil
  go_enter Try.func31, Try.ntmps31
  go_wp2_with fail
  go_ret
  exact ⟨rfl, rfl⟩

set_option maxHeartbeats 2000000 in
theorem alone_any (w : World) (D DB : Nat) (v vb : Value) (was bs : List Int) (p : Nat) (h : Rd w D v (ivals was)) (hp : p < was.length) (hb : Rd w DB vb (ivals bs)) (hl : bs.length ≤ 1000000) (hbs : ∀ b ∈ bs, ∃ k : Nat, b = (k : Int) ∧ k < was.length) :
    Calls Try.prog 32 #[v, .int .i64 (p : Int), vb] w fun e w' => e = .returned (.tuple #[.int .i64 (foldO was (was.getD p 0) bs), .bool (!(foldO was (was.getD p 0) bs == -2) && !(foldO was (was.getD p 0) bs == -1))]) ∧ w = w' := by
  obtain ⟨A, c, rfl, -, -⟩ := id h
  obtain ⟨A2, c2, rfl, -, -⟩ := id hb
  have hil : (ivals bs).length = bs.length := by simp [ivals]
  rw [hil] at hb ⊢
  have HW := Lib.hid h; have HB := Lib.hid hb; have HBS := Lib.hid hbs
  clear h hb hbs hil
  obtain ⟨a0, ha0⟩ : ∃ a, was.getD p 0 = a := ⟨_, rfl⟩
  rw [ha0]
  have HO : Hid (∀ q : Nat, q < was.length → Calls Try.prog 43 #[.slice A (ivals was).length c, .int .i64 (q : Int)] w fun e w' => e = .returned (.int .i64 (was.getD q 0)) ∧ w = w') := fun q hq => owner_any w D _ was q HW.out hq
  have HP := Lib.hid hp
  have HA0 := Lib.hid ha0
  clear ha0 hp
  obtain ⟨r, hr⟩ : ∃ r, foldO was a0 bs = r := ⟨_, rfl⟩
  rw [hr]
  have HR := Lib.hid hr
  clear hr
  generalize (ivals was).length = n at *
  obtain ⟨m, hm⟩ : ∃ m, bs.length = m := ⟨_, rfl⟩
  rw [hm] at HB hl ⊢
  have HM := Lib.hid hm
  clear hm
  go_enter Try.func32, Try.ntmps32
  go_wp2_with fail
  refine (HO.out p HP.out).mono ?_; rintro e w1 ⟨rfl, rfl⟩
  rw [HA0.out]
  go_wp2_with fail
  go_loop [8, 16] (fun a k => ∃ i : Nat, i ≤ m ∧ k = .int .i64 i ∧ a = .int .i64 (foldO was a0 (bs.take i))) (fun _ k => m - (intOf k).toNat)
  case atStart => exact ⟨0, Nat.zero_le _, rfl, by simp [foldO]⟩
  case round =>
    obtain ⟨i, hi, rfl, rfl⟩ := hrel
    by_cases hlt : i < m
    · have him : i < bs.length := by have := HM.out; omega
      obtain ⟨b, o, hA, -, q0⟩ := HB.out.at (i := i) (u := .int .i64 bs[i]) (by simp [ivals, him])
      subst hA
      have HS : Hid (foldO was a0 (bs.take (i + 1)) = togO (foldO was a0 (bs.take i)) (was.getD bs[i].toNat 0)) := foldO_snoc was a0 bs i him
      obtain ⟨k, hk, hkl⟩ := HBS.out bs[i] (List.getElem_mem him)
      rw [hk] at q0 HS
      rw [Int.toNat_natCast] at HS
      generalize foldO was a0 (bs.take i) = y at *
      have HOK := Lib.hid (HO.out k hkl)
      generalize was.getD k 0 = z at HOK HS
      clear hk hkl
      go_wp2_with fail
      refine HOK.out.mono ?_; rintro e w1 ⟨rfl, rfl⟩
      go_wp2_with fail
      refine (together_any _ _ _).mono ?_; rintro e w1 ⟨rfl, rfl⟩
      rw [← HS.out]
      go_wp2_with fail
      go_roundw
      case rel => exact ⟨i + 1, by omega, by go_num, rfl⟩
      case measure => simp [intOf]; omega
    · have HF : Hid (foldO was a0 (bs.take i) = r) := by
        show _ = _
        rw [← HR.out, List.take_of_length_le (by have := HM.out; omega)]
      rw [HF.out]
      clear HO
      by_cases h2 : r = -2
      · have e2 : (r == -2) = true := by simpa using h2
        go_wp2_with fail
        go_ret2
        exact ⟨by first | rfl | (rw [e2]; rfl) | simp [bne, e2], rfl⟩
      · have e2 : (r == -2) = false := by simpa using h2
        go_wp2_with fail
        go_ret2
        exact ⟨by first | rfl | (rw [e2]; rfl) | simp [bne, e2], rfl⟩
end Go.Proofs.Ythnjilbfkfekhaa
