/- Contracts: is all read? By the program's reader, and the document's. -/
import Derived.Test.YtcfnaajnkloobaaM2
namespace Go.Proofs.Ytcfnaajnkloobaa
open Go.RowKit
set_option maxRecDepth 100000

def endQ (q : List Nat) (rd : Nat) (fl : Bool) : Bool := !fl && decide (8 * q.length - rd < 8) && (List.range (8 * q.length - rd)).all fun i => !bitQ q (rd + i)

set_option maxHeartbeats 1000000 in
theorem end_some (w : World) (B g : Nat) (q : List Nat) (rd : Nat) (fl : Bool) (h : Rr w B g q rd fl) (hb : ∀ x ∈ q, x < 256) (hq : q.length ≤ 10000000) (hrd : rd ≤ 8 * q.length) :
    Calls Try.prog 32 #[.pointer (some ⟨g, 0, none⟩)] w fun e w' => e = .returned (.bool (endQ q rd fl)) ∧ ∃ n, w' = w.drewN n := by
  have H := Lib.hid h; clear h
  have HB := Lib.hid hb; clear hb
  cases fl with
  | true =>
    have hf : endQ q rd true = false := rfl
    have Hf := Lib.hid hf; clear hf
    go_enter Try.func32, Try.ntmps32
    go_wp2_with fail
    refine (ok_some w B g q rd true H.out).mono ?_; rintro e w' ⟨rfl, rfl⟩
    go_wp2_with fail
    go_ret
    exact ⟨ret_bool Hf.out.symm, 0, rfl⟩
  | false =>
    obtain ⟨L, hL⟩ : ∃ L, 8 * q.length - rd = L := ⟨_, rfl⟩
    have HL := Lib.hid hL; clear hL
    have L0 : L ≤ 80000000 := by have := HL.out; omega
    by_cases h8 : L < 8
    · have hf : endQ q rd false = (List.range L).all fun i => !bitQ q (rd + i) := by unfold endQ; rw [HL.out]; simp [h8]
      have Hf := Lib.hid hf; clear hf
      go_enter Try.func32, Try.ntmps32
      go_wp2_with fail
      refine (ok_some w B g q rd false H.out).mono ?_; rintro e w' ⟨rfl, rfl⟩
      go_wp2_with fail
      refine (left_some w B g q rd false H.out hq hrd).mono ?_; rintro e w' ⟨rfl, k, rfl⟩
      rw [HL.out]
      go_wp2_with fail
      refine (left_some (w.drewN k) B g q rd false H.out hq hrd).mono ?_; rintro e w' ⟨rfl, k2, rfl⟩
      rw [HL.out]
      go_wp2_with fail
      go_loopw [14] (fun c wr => ∃ i : Nat, i ≤ L ∧ c = .int .i64 i ∧ Hid (∀ j, j < i → bitQ q (rd + j) = false) ∧ ∃ m, wr = w.drewN m) (fun c _ => L - (intOf c).toNat)
      case atStart => exact ⟨0, Nat.zero_le _, rfl, fun j hj => absurd hj (by omega), _, rfl⟩
      case round =>
        obtain ⟨i, hi, rfl, HZ, m, rfl⟩ := hrel
        by_cases hlt : i < L
        · obtain ⟨v, hr, ho⟩ := H.out
          have h1 : w.cell? ⟨g, 1, none⟩ = some (.int .i64 (rd : Int)) := by have := hr.cell 1; simpa using this
          clear hr ho
          have hs : rd + i < 8 * q.length := by have := HL.out; omega
          go_wp2_with fail
          rw [show ((rd : Int) + (i : Int)) = ((rd + i : Nat) : Int) from by simp]
          refine (bit_some (w.drewN m) B g q rd false (rd + i) H.out HB.out hq hs).mono ?_
          rintro e w' ⟨rfl, rfl⟩
          cases hbit : bitQ q (rd + i) with
          | true =>
            have hff : endQ q rd false = false := by
              rw [Hf.out]
              refine Bool.eq_false_iff.2 fun c => ?_
              have := List.all_eq_true.1 c i (by simpa using hlt)
              rw [hbit] at this
              simp at this
            have Hff := Lib.hid hff; clear hff hbit
            go_wp2_with fail
            go_ret
            exact ⟨ret_bool Hff.out.symm, m, rfl⟩
          | false =>
            have HZ2 : Hid (∀ j, j < i + 1 → bitQ q (rd + j) = false) := by
              intro j hj
              rcases Nat.lt_or_ge j i with c | c
              · exact HZ.out j c
              · obtain rfl : j = i := by omega
                exact hbit
            clear hbit
            go_wp2_with fail
            go_roundw
            case rel => exact ⟨i + 1, by omega, by go_num, HZ2, m, rfl⟩
            case measure => simp [intOf]; omega
        · have hff : endQ q rd false = true := by
            rw [Hf.out]
            refine List.all_eq_true.2 fun j hj => ?_
            rw [HZ.out j (by have := List.mem_range.1 hj; omega)]; rfl
          have Hff := Lib.hid hff; clear hff
          go_wp2_with fail
          go_ret
          exact ⟨ret_bool Hff.out.symm, m, rfl⟩
    · have hf : endQ q rd false = false := by unfold endQ; rw [HL.out]; simp [h8]
      have Hf := Lib.hid hf; clear hf
      go_enter Try.func32, Try.ntmps32
      go_wp2_with fail
      refine (ok_some w B g q rd false H.out).mono ?_; rintro e w' ⟨rfl, rfl⟩
      go_wp2_with fail
      refine (left_some w B g q rd false H.out hq hrd).mono ?_; rintro e w' ⟨rfl, k, rfl⟩
      rw [HL.out]
      go_wp2_with fail
      go_ret
      exact ⟨ret_bool Hf.out.symm, k, rfl⟩

def endL (l : List Bool) (fl : Bool) : Bool := !fl && decide (l.length < 8) && (List.range l.length).all fun i => !get l i

set_option maxHeartbeats 2000000 in
theorem inEnd_any (w : World) (b0 g : Nat) (l : List Bool) (fl : Bool) (h : InS w b0 g l fl) (hl : l.length ≤ 100000) :
    Calls Try.prog 49 #[.pointer (some ⟨g, 0, none⟩)] w fun e w' => e = .returned (.bool (endL l fl)) ∧ w' = w := by
  obtain ⟨A, c, hr, hlc, hx⟩ := h
  have h0 := hr.cell 0; have h1 := hr.cell 1
  simp only [List.getElem?_toArray, List.getElem?_cons_zero, List.getElem?_cons_succ] at h0 h1
  have HX := Lib.hid hx
  clear hr hx
  cases fl with
  | true =>
    have hf : endL l true = false := rfl
    have HF := Lib.hid hf; clear hf
    go_enter Try.func49, Try.ntmps49
    go_wp2
    go_ret
    exact ⟨ret_bool HF.out.symm, rfl⟩
  | false =>
    by_cases h8 : 7 < l.length
    · have hf : endL l false = false := by unfold endL; rw [decide_eq_false (by omega)]; rfl
      have HF := Lib.hid hf; clear hf
      go_enter Try.func49, Try.ntmps49
      go_wp2
      go_ret
      exact ⟨ret_bool HF.out.symm, rfl⟩
    · have hf : endL l false = (List.range l.length).all fun i => !get l i := by unfold endL; rw [decide_eq_true (by omega)]; rfl
      have HF := Lib.hid hf; clear hf
      go_enter Try.func49, Try.ntmps49
      go_wp2
      go_loop [3] (fun k => ∃ i : Nat, i ≤ l.length ∧ k = .int .i64 i ∧ Hid (∀ j, j < i → get l j = false)) (fun k => l.length - (intOf k).toNat)
      case atStart => exact ⟨0, Nat.zero_le _, rfl, fun j hj => absurd hj (by omega)⟩
      case round =>
        obtain ⟨i, hi, rfl, HZ⟩ := hrel
        by_cases hlt : i < l.length
        · obtain ⟨o, rfl, hc⟩ := HX.out (by omega)
          have hcell := hc i hlt
          have hgt : get l i = l[i] := by unfold get; simp [List.getD, hlt]
          rw [← hgt] at hcell
          clear hc hgt
          cases hbit : get l i with
          | true =>
            rw [hbit] at hcell
            have hff : endL l false = false := by
              rw [HF.out]
              refine Bool.eq_false_iff.2 fun c => ?_
              have := List.all_eq_true.1 c i (by simpa using hlt)
              rw [hbit] at this
              simp at this
            have HFF := Lib.hid hff; clear hff hbit
            go_wp2
            go_ret
            exact ⟨ret_bool HFF.out.symm, rfl⟩
          | false =>
            rw [hbit] at hcell
            have HZ2 : Hid (∀ j, j < i + 1 → get l j = false) := by
              intro j hj
              rcases Nat.lt_or_ge j i with c | c
              · exact HZ.out j c
              · obtain rfl : j = i := by omega
                exact hbit
            clear hbit
            go_wp2
            go_round
            case rel => exact ⟨i + 1, by omega, by go_num, HZ2⟩
            case measure => simp [intOf]; omega
        · have hff : endL l false = true := by
            rw [HF.out]
            refine List.all_eq_true.2 fun j hj => ?_
            rw [HZ.out j (by have := List.mem_range.1 hj; omega)]; rfl
          have HFF := Lib.hid hff; clear hff
          go_wp2
          go_ret
          exact ⟨ret_bool HFF.out.symm, rfl⟩

theorem all_get (l : List Bool) : ((List.range l.length).all fun i => !get l i) = l.all fun b => !b := by
  rw [Bool.eq_iff_iff, List.all_eq_true, List.all_eq_true]
  constructor
  · intro h b hb
    obtain ⟨i, hi, rfl⟩ := List.getElem_of_mem hb
    have := h i (List.mem_range.2 hi)
    unfold get at this
    simpa [List.getD, hi] using this
  · intro h i hi
    have hi' := List.mem_range.1 hi
    have := h l[i] (List.getElem_mem hi')
    unfold get
    simpa [List.getD, hi'] using this

theorem endL_eq (l : List Bool) : endL l false = endB l := by
  unfold endL endB
  rw [all_get]; rfl

theorem endQ_eq (q : List Nat) (rd : Nat) : endQ q rd false = endB ((upto q q.length).drop rd) := by
  rw [← endL_eq]
  unfold endL endQ
  rw [List.length_drop, upto_length]
  congr 1
  rw [Bool.eq_iff_iff, List.all_eq_true, List.all_eq_true]
  have hg : ∀ j, rd + j < 8 * q.length → get ((upto q q.length).drop rd) j = bitQ q (rd + j) := fun j h => by
    rw [← get_upto q q.length (rd + j) h]
    unfold get
    rw [List.getD_eq_getElem?_getD, List.getD_eq_getElem?_getD, List.getElem?_drop]
  constructor
  · intro h i hi
    have hi' := List.mem_range.1 hi
    rw [hg i (by omega)]; exact h i hi
  · intro h i hi
    have hi' := List.mem_range.1 hi
    rw [← hg i (by omega)]; exact h i hi

theorem rend_any (w : World) (B g : Nat) (l : List Bool) (h : RS w B g (some l)) : Calls Try.prog 32 #[.pointer (some ⟨g, 0, none⟩)] w fun e w' => e = .returned (.bool (endB l)) ∧ ∃ n, w' = w.drewN n := by
  obtain ⟨q, rd, hr, h1, h2, h3, rfl⟩ := h
  refine (end_some w B g q rd false hr h3 (by omega) h1).mono ?_
  rintro e w' ⟨rfl, h⟩
  exact ⟨by rw [endQ_eq], h⟩

theorem iend_any (w : World) (b0 g : Nat) (l : List Bool) (h : IS w b0 g (some l)) : Calls Try.prog 49 #[.pointer (some ⟨g, 0, none⟩)] w fun e w' => e = .returned (.bool (endB l)) ∧ w' = w := by
  obtain ⟨hi, hl⟩ := h
  refine (inEnd_any w b0 g l false hi hl).mono ?_
  rintro e w' ⟨rfl, h⟩
  exact ⟨by rw [endL_eq], h⟩

theorem rflag_any (w : World) (B g : Nat) (s : St) (h : RS w B g s) :
    Calls Try.prog 30 #[.pointer (some ⟨g, 0, none⟩)] w fun e w' => e = .returned (.bool (decide ((tget 1 s).1 = 1))) ∧ RS w' B g (tget 1 s).2 ∧ KeptL [g] w w' := by
  have H := Lib.hid h; clear h
  go_enter Try.func30, Try.ntmps30
  go_wp2_with fail
  refine (rget_any w B g s 1 1 H.out rfl (by omega) (by omega)).mono ?_
  rintro e w1 ⟨rfl, h1, h2⟩
  have H2 : Hid (RS w1 B g (tget 1 s).2 ∧ KeptL [g] w w1) := ⟨h1, h2⟩
  clear h1 h2
  obtain ⟨n, he⟩ : ∃ n, (tget 1 s).1 = n := ⟨_, rfl⟩
  rw [he]
  have HE := Lib.hid he; clear he
  by_cases hn : n = 1
  · subst hn
    go_wp2_with fail
    go_ret
    exact ⟨by rw [HE.out]; rfl, H2.out⟩
  · have e1 : ((n : Int) == 1) = false := by simp; omega
    go_wp2_with fail
    go_ret
    exact ⟨by rw [HE.out, decide_eq_false hn]; rfl, H2.out⟩

end Go.Proofs.Ytcfnaajnkloobaa
