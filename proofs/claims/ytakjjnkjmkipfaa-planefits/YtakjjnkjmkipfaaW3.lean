/- Contracts, third part: what a part of a place is, as the program asks it and as the document does: one answer for every word. -/
import Derived.Test.YtakjjnkjmkipfaaW2
import Derived.Test.YtakjjnkjmkipfaaFloat2
namespace Go.Proofs.Ytakjjnkjmkipfaa
open Fl

theorem archTrunc_run {x : Nat} {s : Bool} {m : Nat} {e : Int} (h : Ieee.double.read x = .number s m e) (w : World) : (callFunc 28 #[.float .f64 x]).run Try.prog w = .ok (.value (.float .f64 (truncW x))) w := by
  rw [run_callFunc_extern (e := Extern.MathFloor.toIntegral "math.archTrunc" .zero) Try.func28 (by kernel_rfl) (by kernel_rfl) (by kernel_rfl) (by kernel_rfl) #[.float .f64 x] w]
  have hd : FloatKind.f64.decode x = .number s m e := h
  have key : ∀ d, FloatKind.f64.decode x = d → d = .number s m e → (Extern.MathFloor.toIntegral "math.archTrunc" .zero #[.float .f64 x]).run Try.prog w = .ok (.float .f64 (truncW x)) w := by
    intro d h1 h2
    change Sem.run Try.prog (match FloatKind.f64.decode x with
      | .nan _ _ => _
      | d => (pure (Value.float .f64 (FloatKind.f64.encode (d.integral .zero))) : Sem Value)) w = _
    rw [h1, h2]
    unfold truncW
    rw [h]
    rfl
  rw [key _ hd rfl]
  rfl

theorem trunc_any {x : Nat} {s : Bool} {m : Nat} {e : Int} (h : Ieee.double.read x = .number s m e) (w : World) :
    Calls Try.prog 27 #[.float .f64 x] w fun e w' => e = .returned (.float .f64 (truncW x)) ∧ w = w' := by
  have ho := archTrunc_run h
  clear h
  go_enter Try.func27, Try.ntmps27
  go_wp2
  go_ret
  exact ⟨rfl, rfl⟩

theorem metres_any (x : Nat) (w : World) : Calls Try.prog 23 #[.float .f64 x] w fun e w' => e = .returned (.bool (metB x)) ∧ w = w' := by
  have hm : metB x = (loB x && hiB x && (FloatKind.f64.format.order x (truncW x) == some .eq)) := rfl
  have Hm := Lib.hid hm; clear hm
  cases h1 : loB x with
  | false =>
    have k1 : metB x = false := by rw [Hm.out, h1]; rfl
    unfold loB at h1
    have K := Lib.hid k1; clear k1 Hm
    go_enter Try.func23, Try.ntmps23
    go_wp2
    go_ret
    exact ⟨ret_bool K.out.symm, rfl⟩
  | true =>
    cases h2 : hiB x with
    | false =>
      have k1 : metB x = false := by rw [Hm.out, h1, h2]; rfl
      unfold loB at h1
      unfold hiB at h2
      have K := Lib.hid k1; clear k1 Hm
      go_enter Try.func23, Try.ntmps23
      go_wp2
      go_ret
      exact ⟨ret_bool K.out.symm, rfl⟩
    | true =>
      obtain ⟨s, m, e, hr, he, hw⟩ := inside h1 h2
      have k1 : metB x = (FloatKind.f64.format.order x (truncW x) == some .eq) := by rw [Hm.out, h1, h2]; rfl
      unfold loB at h1
      unfold hiB at h2
      have K := Lib.hid k1; have R := Lib.hid hr; clear k1 Hm hr
      go_enter Try.func23, Try.ntmps23
      go_wp2_with fail
      refine (trunc_any R.out _).mono ?_; rintro e w' ⟨rfl, rfl⟩
      go_wp2_with fail
      go_ret
      exact ⟨ret_bool K.out.symm, rfl⟩

theorem whole_any (x : Nat) (w : World) : Calls Try.prog 24 #[.float .f64 x] w fun e w' => e = .returned (.bool (metB x)) ∧ w = w' := by
  have hm : metB x = (loB x && hiB x && (FloatKind.f64.format.order x (truncW x) == some .eq)) := rfl
  have Hm := Lib.hid hm; clear hm
  cases h1 : loB x with
  | false =>
    have k1 : metB x = false := by rw [Hm.out, h1]; rfl
    unfold loB at h1
    have K := Lib.hid k1; clear k1 Hm
    go_enter Try.func24, Try.ntmps24
    go_wp2
    go_ret
    exact ⟨ret_bool K.out.symm, rfl⟩
  | true =>
    cases h2 : hiB x with
    | false =>
      have k1 : metB x = false := by rw [Hm.out, h1, h2]; rfl
      unfold loB at h1
      unfold hiB at h2
      have K := Lib.hid k1; clear k1 Hm
      go_enter Try.func24, Try.ntmps24
      go_wp2
      go_ret
      exact ⟨ret_bool K.out.symm, rfl⟩
    | true =>
      obtain ⟨s, m, e, hr, he, hw⟩ := inside h1 h2
      have k1 : metB x = (FloatKind.f64.format.order (floatOfInt .f64 (sg s (whole s m e))) x == some .eq) := by rw [Hm.out, h1, h2, whole_same hr he (by omega)]; rfl
      have t1 := toInt_whole hr (by omega)
      have c1 : ∀ w, (convert 24 2 (.float .f64 x)).run Try.prog w = .ok (.int .i64 (sg s (whole s m e))) w := fun w => run_convert_float_int w 24 2 .f64 .i64 x _ (by rw [Try.underlying24]; rfl) Try.underlying2 t1
      unfold loB at h1
      unfold hiB at h2
      have K := Lib.hid k1; clear k1 Hm hr t1
      go_enter Try.func24, Try.ntmps24
      go_wp2_with fail
      go_ret
      exact ⟨ret_bool K.out.symm, rfl⟩

theorem Place_any (x y : Nat) (w : World) : Calls Try.prog 11 #[.complex .f64 x y] w fun e w' => e = .returned (.bool (metB x && metB y)) ∧ w = w' := by
  cases h1 : metB x
  · have H := Lib.hid h1; clear h1
    go_enter Try.func11, Try.ntmps11
    go_wp2_with fail
    refine (metres_any x _).mono ?_; rintro e w' ⟨rfl, rfl⟩
    rw [H.out]
    go_wp2_with fail
    go_ret
    exact ⟨rfl, rfl⟩
  · have H := Lib.hid h1; clear h1
    go_enter Try.func11, Try.ntmps11
    go_wp2_with fail
    refine (metres_any x _).mono ?_; rintro e w' ⟨rfl, rfl⟩
    rw [H.out]
    go_wp2_with fail
    refine (metres_any y _).mono ?_; rintro e w' ⟨rfl, rfl⟩
    go_wp2_with fail
    go_ret
    exact ⟨rfl, rfl⟩

theorem refPlace_any (x y : Nat) (w : World) : Calls Try.prog 12 #[.complex .f64 x y] w fun e w' => e = .returned (.bool (metB x && metB y)) ∧ w = w' := by
  cases h1 : metB x
  · have H := Lib.hid h1; clear h1
    go_enter Try.func12, Try.ntmps12
    go_wp2_with fail
    refine (whole_any x _).mono ?_; rintro e w' ⟨rfl, rfl⟩
    rw [H.out]
    go_wp2_with fail
    go_ret
    exact ⟨rfl, rfl⟩
  · have H := Lib.hid h1; clear h1
    go_enter Try.func12, Try.ntmps12
    go_wp2_with fail
    refine (whole_any x _).mono ?_; rintro e w' ⟨rfl, rfl⟩
    rw [H.out]
    go_wp2_with fail
    refine (whole_any y _).mono ?_; rintro e w' ⟨rfl, rfl⟩
    go_wp2_with fail
    go_ret
    exact ⟨rfl, rfl⟩

end Go.Proofs.Ytakjjnkjmkipfaa
