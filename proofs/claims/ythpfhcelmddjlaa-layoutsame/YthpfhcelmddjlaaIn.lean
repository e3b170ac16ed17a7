/- Contracts of the document's reader: Get and End. -/
import Derived.Test.YthpfhcelmddjlaaOf
import Derived.Deep.Cut
namespace Go.Proofs.Ythpfhcelmddjlaa
open Go.RowKit
set_option maxRecDepth 100000

/-- The document's reader at block 'g': the bits 'l' aren't read yet, they lie in block 'b0'. -/
def InS (w : World) (b0 g : Nat) (l : List Bool) (fl : Bool) : Prop :=
  ∃ (A : Option Addr) (c : Nat), Row w g 119 #[.slice A l.length c, .bool fl] ∧ l.length ≤ c ∧ (0 < l.length → ∃ o, A = some ⟨b0, o, none⟩ ∧ ∀ j (h : j < l.length), w.cell? ⟨b0, o + j, none⟩ = some (.bool l[j]))

theorem inGet_fail (w : World) (b0 g : Nat) (l : List Bool) (fl : Bool) (width : Int) (h : InS w b0 g l fl) (hf : fl = true ∨ (l.length : Int) < min (max width 0) 64) (hl : l.length ≤ 100000) :
    Calls Try.prog 74 #[.pointer (some ⟨g, 0, none⟩), .int .i64 width] w fun e w' => e = .returned (.int .u64 0) ∧ InS w' b0 g [] true ∧ Only g w w' := by
  obtain ⟨A, c, hr, _, _⟩ := h
  have h0 := hr.cell 0; have h1 := hr.cell 1; have f0 := hr.frozen 0; have f1 := hr.frozen 1
  simp only [List.getElem?_toArray, List.getElem?_cons_zero, List.getElem?_cons_succ] at h0 h1
  have HR := Lib.hid hr; have HF := Lib.hid hf
  clear hr hf
  have hend : Hid (InS ((w.setCell ⟨g, 0, none⟩ (.slice none 0 0)).setCell ⟨g, 1, none⟩ (.bool true)) b0 g [] true ∧ Only g w ((w.setCell ⟨g, 0, none⟩ (.slice none 0 0)).setCell ⟨g, 1, none⟩ (.bool true))) :=
    ⟨⟨none, 0, (HR.out.set 0 _).set 1 _, Nat.le_refl _, fun h => by simp at h⟩, ((Only.refl g w).set _).set _⟩
  cases fl with
  | true =>
    clear HF
    by_cases c1 : 64 < width
    · go_enter Try.func74, Try.ntmps74
      go_wp2
      go_ret
      exact ⟨rfl, hend.out⟩
    · by_cases c2 : width < 0
      · go_enter Try.func74, Try.ntmps74
        go_wp2
        go_ret
        exact ⟨rfl, hend.out⟩
      · go_enter Try.func74, Try.ntmps74
        go_wp2
        go_ret
        exact ⟨rfl, hend.out⟩
  | false =>
    have hlt : (l.length : Int) < min (max width 0) 64 := by
      rcases HF.out with h | h
      · cases h
      · exact h
    clear HF
    by_cases c1 : 64 < width
    · have hlt2 : (l.length : Int) < 64 := by omega
      clear hlt
      go_enter Try.func74, Try.ntmps74
      go_wp2
      go_ret
      exact ⟨rfl, hend.out⟩
    · by_cases c2 : width < 0
      · omega
      · have hlt2 : (l.length : Int) < width := by omega
        clear hlt
        go_enter Try.func74, Try.ntmps74
        go_wp2
        go_ret
        exact ⟨rfl, hend.out⟩

theorem InS.cut {w : World} {b0 g i c : Nat} {l : List Bool} {A A' : Option Addr} (hr : Row w g 119 #[.slice A l.length c, .bool false]) (hlc : l.length ≤ c) (hi : i ≤ l.length) (hbg : b0 ≠ g)
    (hx : 0 < l.length → ∃ o, A = some ⟨b0, o, none⟩ ∧ ∀ j (h : j < l.length), w.cell? ⟨b0, o + j, none⟩ = some (.bool l[j])) (hA : c = i ∨ A' = A.map (fun x => x.add i)) :
    InS (w.setCell ⟨g, 0, none⟩ (.slice A' (l.length - i) (c - i))) b0 g (l.drop i) false := by
  refine ⟨A', c - i, by rw [List.length_drop]; exact hr.set 0 _, by rw [List.length_drop]; omega, fun hp => ?_⟩
  rw [List.length_drop] at hp
  rcases hA with hA | hA
  · omega
  · obtain ⟨o, e, hc⟩ := hx (by omega)
    refine ⟨o + i, by rw [hA, e, Option.map_some, Go.WideShapes.add_plain], fun j hj => ?_⟩
    rw [List.length_drop] at hj
    rw [World.cell?_setCell_other _ _ _ _ (by intro e; injection e with e; exact hbg e.symm), Nat.add_assoc, hc (i + j) (by omega)]
    simp

set_option maxHeartbeats 2000000 in
theorem inGet_in (w : World) (b0 g : Nat) (l : List Bool) (W : Nat) (h : InS w b0 g l false) (hW : W ≤ l.length) (h64 : W ≤ 64) (hl : l.length ≤ 100000) (hbg : b0 ≠ g) :
    Calls Try.prog 74 #[.pointer (some ⟨g, 0, none⟩), .int .i64 (W : Int)] w fun e w' => e = .returned (.int .u64 (hor l 0 W : Int)) ∧ InS w' b0 g (l.drop W) false ∧ Only g w w' := by
  obtain ⟨A, c, hr, hlc, hx⟩ := h
  have h0 := hr.cell 0; have h1 := hr.cell 1; have f0 := hr.frozen 0; have f1 := hr.frozen 1
  simp only [List.getElem?_toArray, List.getElem?_cons_zero, List.getElem?_cons_succ] at h0 h1
  have HR := Lib.hid hr; have HX := Lib.hid hx
  clear hr hx
  go_enter Try.func74, Try.ntmps74
  go_wp2
  go_loop [5, 6] (fun n k => ∃ i : Nat, i ≤ W ∧ k = .int .i64 i ∧ n = .int .u64 (hor l 0 i : Int)) (fun _ k => W - (intOf k).toNat)
  case atStart => exact ⟨0, Nat.zero_le _, rfl, rfl⟩
  case round =>
    obtain ⟨i, hi, rfl, rfl⟩ := hrel
    by_cases hlt : i < W
    · obtain ⟨o, rfl, hc⟩ := HX.out (by omega)
      have hcell := hc i (by omega)
      have hgt : get l (0 + i) = l[i]'(by omega) := by unfold get; simp [List.getD, show i < l.length by omega]
      have hs : hor l 0 (i + 1) = 2 * hor l 0 i + (get l (0 + i)).toNat := rfl
      rw [hgt] at hs
      generalize l[i]'(by omega) = bt at hcell hs
      have nl : hor l 0 i < 2 ^ 63 := Nat.lt_of_lt_of_le (hor_lt l 0 i) (Nat.pow_le_pow_right (by decide) (by omega))
      have HS := Lib.hid hs; have NL := Lib.hid nl
      clear hgt hs hc nl
      generalize hor l 0 i = n at *
      have hwr : IntKind.u64.wrap ((n : Int) * 2) = (n : Int) * 2 := by
        rw [show IntKind.u64.wrap ((n : Int) * 2) = ((n : Int) * 2) % 18446744073709551616 from by simp [IntKind.wrap, IntKind.bits, IntKind.signed]]
        have := NL.out; omega
      have hwr1 : IntKind.u64.wrap ((n : Int) * 2 + 1) = (n : Int) * 2 + 1 := by
        rw [show IntKind.u64.wrap ((n : Int) * 2 + 1) = ((n : Int) * 2 + 1) % 18446744073709551616 from by simp [IntKind.wrap, IntKind.bits, IntKind.signed]]
        have := NL.out; omega
      cases bt
      all_goals
        go_wp2
        go_round
        case rel => exact ⟨i + 1, by omega, by go_num, by rw [HS.out]; go_num⟩
        case measure => simp [intOf]; omega
    · obtain rfl : i = W := by omega
      go_wp2
      · have hci : c = i := by assumption
        have hcut := InS.cut (A' := A) HR.out hlc hW hbg HX.out (Or.inl hci)
        rw [show c - i = 0 from by omega] at hcut
        have HCUT := Lib.hid hcut; clear hcut
        go_ret
        exact ⟨rfl, HCUT.out, (Only.refl g w).set _⟩
      · go_ret
        exact ⟨rfl, InS.cut HR.out hlc hW hbg HX.out (Or.inr rfl), (Only.refl g w).set _⟩

end Go.Proofs.Ythpfhcelmddjlaa
