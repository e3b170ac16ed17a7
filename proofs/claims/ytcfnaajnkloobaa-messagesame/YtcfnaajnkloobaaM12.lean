/- What is known of a message's numbers that came in. -/
import Derived.Test.YtcfnaajnkloobaaM11
import Derived.Deep.Matrix
import Derived.ProofKit
namespace Go.Proofs.Ytcfnaajnkloobaa
open Go.RowKit Go.Deep Go.WideShapes Go.ChangeShapes
set_option maxRecDepth 100000

theorem u32_nat {n : Int} (h : (Lit.int .u32 n).wf = true) : ∃ k : Nat, n = (k : Int) ∧ k < 4294967296 := by
  simp only [Lit.wf, Bool.and_eq_true, decide_eq_true_eq] at h
  rw [show IntKind.u32.min = 0 from by decide, show IntKind.u32.max = 4294967295 from by decide] at h
  exact ⟨n.toNat, by omega, by omega⟩

theorem say_of_trod {H : Type} {enc : TypeId × Value → H} {W : World} {base : Nat} {v : Value} {dd : DataW H} {p : List MemPlace}
    (hval : Value.okWide Try.prog W .any base 26 v) (h : DataW.Trod enc Try.prog W 0 (fun _ => true) true 26 v dd p) :
    ∃ (s : Sy) (vr : Value), v = sayV s vr ∧ SyOk s ∧ Rd W W.heap.size vr (bvals s.trail) := by
  obtain ⟨cs, rfl, hsz⟩ := okWide_struct Try.underlying26 hval
  rw [show Try.prog.cellsOf 26 = 7 from by kernel_rfl] at hsz
  obtain ⟨fuel, hf⟩ := h
  obtain ⟨l⟩ := cs
  match l, hsz with
  | [c0, c1, c2, c3, c4, c5, c6], _ =>
    obtain ⟨xs, n, _, _, _, hlen, hfs⟩ := DataW.trod_struct Try.underlying26 hf
    match xs, hlen with
    | [y0, y1, y2, y3, y4, y5, y6], _ =>
      have k5 : Try.prog.cellsOf 5 = 1 := by kernel_rfl
      have k22 : Try.prog.cellsOf 22 = 1 := by kernel_rfl
      have k23 : Try.prog.cellsOf 23 = 1 := by kernel_rfl
      have k4 : Try.prog.cellsOf 4 = 1 := by kernel_rfl
      have k24 : Try.prog.cellsOf 24 = 1 := by kernel_rfl
      have g0 : DataW.trod enc Try.prog W 0 (fun _ => true) true n 5 [c0] = some y0 := by simpa [Value.cells, k5] using hfs 0 _ rfl
      have g1 : DataW.trod enc Try.prog W 0 (fun _ => true) true n 5 [c1] = some y1 := by simpa [Value.cells, k5] using hfs 1 _ rfl
      have g2 : DataW.trod enc Try.prog W 0 (fun _ => true) true n 5 [c2] = some y2 := by simpa [Value.cells, k5] using hfs 2 _ rfl
      have g3 : DataW.trod enc Try.prog W 0 (fun _ => true) true n 22 [c3] = some y3 := by simpa [Value.cells, k22] using hfs 3 _ rfl
      have g4 : DataW.trod enc Try.prog W 0 (fun _ => true) true n 23 [c4] = some y4 := by simpa [Value.cells, k23] using hfs 4 _ rfl
      have g5 : DataW.trod enc Try.prog W 0 (fun _ => true) true n 4 [c5] = some y5 := by simpa [Value.cells, k4] using hfs 5 _ rfl
      have g6 : DataW.trod enc Try.prog W 0 (fun _ => true) true n 24 [c6] = some y6 := by simpa [Value.cells, k24] using hfs 6 _ rfl
      obtain ⟨z0, e0, _, w0⟩ := DataW.trod_int Try.underlying5 g0
      obtain ⟨z1, e1, _, w1⟩ := DataW.trod_int Try.underlying5 g1
      obtain ⟨z2, e2, _, w2⟩ := DataW.trod_int Try.underlying5 g2
      obtain ⟨z3, e3, _, w3⟩ := DataW.trod_int Try.underlying22 g3
      obtain ⟨z4, e4, _, w4⟩ := DataW.trod_int Try.underlying23 g4
      obtain ⟨z5, e5, _⟩ := DataW.trod_bool Try.underlying4 g5
      simp only [List.cons.injEq, and_true] at e0 e1 e2 e3 e4 e5
      obtain ⟨n0, rfl, b0⟩ := u8_nat w0
      obtain ⟨n1, rfl, b1⟩ := u8_nat w1
      obtain ⟨n2, rfl, b2⟩ := u8_nat w2
      obtain ⟨n3, rfl, b3⟩ := u32_nat w3
      obtain ⟨n4, rfl, b4⟩ := u16_nat w4
      have hq : ∃ q : List Nat, (∀ y ∈ q, y < 256) ∧ Rd W W.heap.size c6 (bvals q) := by
        rcases open_ints Try.underlying24 Try.underlying5 (by kernel_rfl) g6 with ⟨hcs, _⟩ | ⟨x, l, c, zs, hcs, _, hl, hm, hz, _, hcell, hwz⟩
        · simp only [List.cons.injEq, and_true] at hcs
          subst hcs
          exact ⟨[], fun _ h => by simp at h, Rd.empty _ _⟩
        · simp only [List.cons.injEq, and_true] at hcs
          subst hcs
          obtain ⟨q, _, h1, h2⟩ := arg_some hl (by simpa using hz) hcell hwz
          exact ⟨q, h1, h2⟩
      obtain ⟨q, hq1, hq2⟩ := hq
      refine ⟨⟨n0, n1, n2, n3, n4, z5, q⟩, c6, ?_, ⟨b0, b1, b2, b3, b4, hq1⟩, hq2⟩
      rw [e0, e1, e2, e3, e4, e5]
      rfl

theorem enc_bytes {m : Msg} (h1 : m.trail.length ≤ 15) : (pack (enc m)).length ≤ 20 := by
  have h2 : (enc m).length ≤ 144 := by
    unfold enc erest
    simp only [List.length_append, nbit_length]
    have : (if m.kind = 3 then erep m else []).length ≤ 16 := by split <;> simp [erep, nbit_length]
    have : (if hasT m.kind = true then etrail m.trail else []).length ≤ 94 := by
      split
      · rw [etrail_len]; omega
      · simp
    omega
  rw [pack_length]; unfold nb; omega

theorem fits_len {m : Msg} (h : Fits m) : (pack (enc m)).length ≤ 20 := enc_bytes h.trail

theorem below_drew {W W' : World} {n : Nat} (h : W' = W.drewN n) : Below W.heap.size W W' := by rw [h]; exact ⟨rfl, rfl, rfl, Nat.le_refl _, fun _ _ => rfl⟩

theorem Sy.up {w w' : World} {v : Value} {s : Sy} (h : Rd w w.heap.size v (bvals s.trail)) (hb : Below w.heap.size w w') : Rd w' w'.heap.size v (bvals s.trail) := h.up hb

end Go.Proofs.Ytcfnaajnkloobaa
