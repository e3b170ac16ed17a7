/- The law ChainMeets. -/
import Derived.Test.YtbomkifnhkmkoaaM1
namespace Go.Proofs.Ytbomkifnhkmkoaa
open Go.RowKit Fl
set_option maxRecDepth 100000

set_option maxHeartbeats 4000000 in
theorem lawMeets (w : World) (A : Option Addr) (c : Nat) (a : List Int) (A' : Option Addr) (c' : Nat) (b : List Int) (ha : Rd w w.heap.size (.slice A a.length c) (ivals a)) (hb : Rd w w.heap.size (.slice A' b.length c') (ivals b))
    (hla : a.length ≤ 9223372036854775807) (hlb : b.length ≤ 9223372036854775807) (hwa : Wf a) (hwb : Wf b) : Calls Try.prog 7 #[.slice A a.length c, .slice A' b.length c'] w (RetL true w) := by
  have HA := Lib.hid ha; have HB := Lib.hid hb
  have HWA := Lib.hid hwa; have HWB := Lib.hid hwb
  clear ha hb hwa hwb
  by_cases h1 : a.length ≤ 40
  · by_cases h2 : b.length ≤ 40
    · obtain ⟨Q, hQ⟩ : ∃ Q, meetsB a b = Q := ⟨_, rfl⟩
      have hQ2 : meetsB b a = Q := by rw [meets_comm]; exact hQ
      have H1 : Hid (∀ W, Below w.heap.size w W → Calls Try.prog 21 #[.slice A a.length c, .slice A' b.length c'] W (RetL Q W)) := fun W hW => by rw [← hQ]; exact meets_any W _ _ a b (HA.out.up hW) (HB.out.up hW) (by omega) (by omega) HWA.out HWB.out
      have H2 : Hid (∀ W, Below w.heap.size w W → Calls Try.prog 21 #[.slice A' b.length c', .slice A a.length c] W (RetL Q W)) := fun W hW => by rw [← hQ2]; exact meets_any W _ _ b a (HB.out.up hW) (HA.out.up hW) (by omega) (by omega) HWB.out HWA.out
      have H3 : Hid (∀ W, Below w.heap.size w W → Calls Try.prog 22 #[.slice A a.length c, .slice A' b.length c'] W (RetL Q W)) := fun W hW => by rw [← hQ2]; exact refMeets_any W _ _ a b (HA.out.up hW) (HB.out.up hW) (by omega) (by omega)
      have hqq : (Q == Q) = true := by simp
      have h1i : ¬ (40 : Int) < (a.length : Int) := by omega
      have h2i : ¬ (40 : Int) < (b.length : Int) := by omega
      clear hQ hQ2 HA HB HWA HWB
      generalize a.length = na at *
      generalize b.length = nb at *
      obtain ⟨qq, hqe⟩ : ∃ q, (Q == Q) = q := ⟨_, rfl⟩
      go_enter Try.func7, Try.ntmps7
      go_wp2_with fail
      refine (later_any w).mono ?_; rintro e w1 ⟨rfl, hb1⟩
      have HB1 := Lib.hid hb1
      clear hb1
      go_wp2_with fail
      refine (H1.out w1 HB1.out).mono ?_; rintro e w2 ⟨rfl, hb2⟩
      have HB2 : Hid (Below w.heap.size w w2) := HB1.out.trans (hb2.mono HB1.out.size)
      clear hb2 HB1
      go_wp2_with fail
      refine (H3.out w2 HB2.out).mono ?_; rintro e w3 ⟨rfl, hb3⟩
      have HB3 : Hid (Below w.heap.size w w3) := HB2.out.trans (hb3.mono HB2.out.size)
      clear hb3 HB2
      go_wp2_with fail
      refine (H2.out w3 HB3.out).mono ?_; rintro e w4 ⟨rfl, hb4⟩
      have HB4 : Hid (Below w.heap.size w w4) := HB3.out.trans (hb4.mono HB3.out.size)
      clear hb4 HB3
      go_wp2_with fail
      refine (H3.out w4 HB4.out).mono ?_; rintro e w5 ⟨rfl, hb5⟩
      have HB5 : Hid (Below w.heap.size w w5) := HB4.out.trans (hb5.mono HB4.out.size)
      clear hb5 HB4
      go_wp2_with fail
      go_ret
      exact ⟨rfl, HB5.out⟩
    · have h1i : ¬ (40 : Int) < (a.length : Int) := by omega
      have h2i : (40 : Int) < (b.length : Int) := by omega
      clear HA HB HWA HWB
      generalize a.length = na at *
      generalize b.length = nb at *
      go_enter Try.func7, Try.ntmps7
      go_wp2_with fail
      refine (later_any w).mono ?_; rintro e w1 ⟨rfl, hb1⟩
      have HB1 := Lib.hid hb1
      clear hb1
      go_wp2_with fail
      go_ret
      exact ⟨rfl, HB1.out⟩
  · have h1i : (40 : Int) < (a.length : Int) := by omega
    clear HA HB HWA HWB
    generalize a.length = na at *
    generalize b.length = nb at *
    go_enter Try.func7, Try.ntmps7
    go_wp2_with fail
    refine (later_any w).mono ?_; rintro e w1 ⟨rfl, hb1⟩
    have HB1 := Lib.hid hb1
    clear hb1
    go_wp2_with fail
    go_ret
    exact ⟨rfl, HB1.out⟩

end Go.Proofs.Ytbomkifnhkmkoaa
