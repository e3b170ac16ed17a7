/- Contracts: bytes opened: the program's and the document's. -/
import Derived.Test.YthpfhcelmddjlaaClose
namespace Go.Proofs.Ythpfhcelmddjlaa
open Go.RowKit

theorem open_short (w : World) (B : Nat) (v : Value) (q : List Nat) (h : Rd w B v (bvals q)) (hl : q.length < 2) :
    Calls Try.prog 33 #[v] w fun e w' => e = .returned (.tuple #[.slice none 0 0, .int .i64 4]) ∧ w = w' := by
  obtain ⟨A, c, rfl, -, -⟩ := h
  simp only [bvals_length] at *
  go_enter Try.func33, Try.ntmps33
  go_wp2
  go_ret2
  exact ⟨rfl, rfl⟩

theorem refOpen_short (w : World) (B : Nat) (v : Value) (q : List Nat) (h : Rd w B v (bvals q)) (hl : q.length < 2) :
    Calls Try.prog 72 #[v] w fun e w' => e = .returned (.tuple #[.slice none 0 0, .int .i64 4]) ∧ w = w' := by
  obtain ⟨A, c, rfl, -, -⟩ := h
  simp only [bvals_length] at *
  go_enter Try.func72, Try.ntmps72
  go_wp2
  go_ret2
  exact ⟨rfl, rfl⟩

/-- The last two bytes, as the walk spells them. -/
theorem or_walk (a b : Nat) (ha : a < 256) (hb : b < 256) : bits BinOp.or IntKind.u16 (a : Int) ((b : Int) * 256) = ((a + 256 * b : Nat) : Int) := by
  have e := u16_or_nat a (b * 256) (by omega) (by omega)
  rw [show ((b * 256 : Nat) : Int) = (b : Int) * 256 from by omega] at e
  rw [e]
  congr 1
  have := Nat.two_pow_add_eq_or_of_lt (i := 8) (b := a) (by omega) b
  rw [show 2 ^ 8 * b = b * 256 from by omega] at this
  rw [Nat.or_comm, ← this]; omega

/-- What is known of bytes that are to be opened. -/
theorem open_facts {w : World} {B : Nat} {v : Value} {q : List Nat} (h : Rd w B v (bvals q)) (hq : ∀ x ∈ q, x < 256) (hl : q.length ≤ 10000000) (h2 : 2 ≤ q.length) :
    ∃ b o c m x y : Nat, v = .slice (some ⟨b, o, none⟩) (m + 2) c ∧ m + 2 ≤ c ∧ q.length = m + 2 ∧ tailNum q = x + 256 * y ∧ q = q.take m ++ [x, y] ∧ x < 256 ∧ y < 256 ∧
      w.cell? ⟨b, o + m, none⟩ = some (.int .u8 (x : Int)) ∧ w.cell? ⟨b, o + (m + 1), none⟩ = some (.int .u8 (y : Int)) ∧
      Rd w B (.slice (some ⟨b, o, none⟩) m c) (bvals (q.take m)) ∧
      ∀ k, Calls Try.prog 55 #[.slice (some ⟨b, o, none⟩) m c] (w.drewN k) fun e w' => e = .returned (.int .u16 (sumOf (q.take m) : Nat)) ∧ w' = w.drewN k := by
  have HH := h
  obtain ⟨A, c, rfl, ⟨-, hcap⟩, hA⟩ := h
  simp only [bvals_length] at *
  obtain ⟨b, o, rfl, hb, hc⟩ := hA (by omega)
  obtain ⟨m, hm⟩ : ∃ m, q.length = m + 2 := ⟨q.length - 2, by omega⟩
  have k1 := hc m _ (bvals_get q m (by omega))
  have k2 := hc (m + 1) _ (bvals_get q (m + 1) (by omega))
  have htail : tailNum q = q[m] + 256 * q[m + 1] := by
    unfold tailNum
    rw [show q.length - 2 = m from by omega, show q.length - 1 = m + 1 from by omega]
    simp [List.getD, show m < q.length by omega, show m + 1 < q.length by omega]
  have hsm : ∀ x ∈ q.take m, x < 256 := fun x hx => hq x (List.mem_of_mem_take hx)
  have hrd : Rd w B (.slice (some ⟨b, o, none⟩) m c) (bvals (q.take m)) := by
    have := HH.take m (by rw [bvals_length]; omega)
    rw [bvals_take] at this
    exact this
  have heq : q = q.take m ++ [q[m], q[m + 1]] := by
    have e := List.take_succ_eq_append_getElem (show m + 1 < q.length by omega)
    have e2 := List.take_succ_eq_append_getElem (show m < q.length by omega)
    rw [List.take_of_length_le (by omega), e2] at e
    rw [List.append_assoc] at e
    exact e
  exact ⟨b, o, c, m, q[m], q[m + 1], by rw [hm], by omega, hm, htail, heq, hq _ (List.getElem_mem _), hq _ (List.getElem_mem _), k1, k2, hrd,
    fun k => (of_any (w.drewN k) B _ _ hrd hsm (by simp; omega)).mono fun _ _ ⟨h1, h2⟩ => ⟨h1, h2.symm⟩⟩

set_option maxHeartbeats 1000000 in
theorem open_bad (w : World) (B : Nat) (v : Value) (q : List Nat) (h : Rd w B v (bvals q)) (hq : ∀ x ∈ q, x < 256) (hl : q.length ≤ 10000000) (h2 : 2 ≤ q.length) (hne : sumOf (q.take (q.length - 2)) ≠ tailNum q) :
    Calls Try.prog 33 #[v] w fun e w' => e = .returned (.tuple #[.slice none 0 0, .int .i64 3]) ∧ ∃ n, w' = w.drewN n := by
  obtain ⟨b, o, c, m, x, y, rfl, hcap, hm, htail, -, hs1, hs2, k1, k2, -, hof⟩ := open_facts h hq hl h2
  rw [htail, show q.length - 2 = m from by omega] at hne
  generalize sumOf (q.take m) = S at *
  have hor := or_walk x y hs1 hs2
  rw [show ((x + 256 * y : Nat) : Int) = (x : Int) + 256 * y from by omega] at hor
  have hd : ((S : Int) != (x : Int) + 256 * y) = true := by simp; omega
  have HOF := Lib.hid hof
  rw [hm] at hl
  have hw1 : IntKind.i64.wrap ((m : Int) + 1) = (m : Int) + 1 := IntWalk.i64_in _ (by omega)
  clear h hq hof htail hne hm h2
  go_enter Try.func33, Try.ntmps33
  go_wp2_with fail
  go_quiet ((go_at_call 55; exact Calls.quiet_of_same (HOF.out _)))
  go_wp2
  go_ret2
  exact ⟨rfl, nq, rfl⟩

/-- It returns these bytes in memory of its own, and no error. -/
def RetOpen (q : List Nat) (w : World) (e : Ending) (w' : World) : Prop := ∃ v', e = .returned (.tuple #[v', .int .i64 0]) ∧ w'.ownsRow w.heap.size 5 1 v' q.length (bvals q) ∧ Below w.heap.size w w'

set_option maxHeartbeats 1000000 in
theorem open_ok (w : World) (B : Nat) (v : Value) (q : List Nat) (h : Rd w B v (bvals q)) (hB : B ≤ w.heap.size) (hq : ∀ x ∈ q, x < 256) (hl : q.length ≤ 10000000) (h2 : 2 ≤ q.length) (heq : sumOf (q.take (q.length - 2)) = tailNum q) :
    Calls Try.prog 33 #[v] w (RetOpen (q.take (q.length - 2)) w) := by
  obtain ⟨b, o, c, m, x, y, rfl, hcap, hm, htail, -, hs1, hs2, k1, k2, hrd, hof⟩ := open_facts h hq hl h2
  have HH := Lib.hid h; have HB := Lib.hid hB
  rw [show q.length - 2 = m from by omega] at heq ⊢
  rw [htail] at heq
  generalize sumOf (q.take m) = S at *
  have hor := or_walk x y hs1 hs2
  rw [show ((x + 256 * y : Nat) : Int) = (x : Int) + 256 * y from by omega] at hor
  have hd : ((S : Int) != (x : Int) + 256 * y) = false := by simp; omega
  have HOF := Lib.hid hof
  rw [hm] at hl
  have hw1 : IntKind.i64.wrap ((m : Int) + 1) = (m : Int) + 1 := IntWalk.i64_in _ (by omega)
  have hmk := fun W => make_bytes m (by omega) W
  have HM := Lib.hid hm
  clear h hq hof htail heq h2 hm hB hrd
  go_enter Try.func33, Try.ntmps33
  go_wp2_with fail
  go_quiet ((go_at_call 55; exact Calls.quiet_of_same (HOF.out _)))
  have hrd : Rd ((w.drewN nq).alloc (.cells (bvals (List.replicate m 0)).toArray 5)) B (.slice (some ⟨b, o, none⟩) q.length c) (bvals q) := by
    have := HH.out
    rw [← HM.out] at this
    exact this.mono (Nat.le_refl _) fun p hp => World.cell?_alloc_lt _ _ _ (Nat.lt_of_lt_of_le hp HB.out)
  obtain ⟨w2, hcopy, hrow, hb2⟩ := copy_bytes _ B w.heap.size m c _ (List.replicate m 0) q (Row.new (w.drewN nq) 5 _) hrd
  rw [List.length_replicate, List.drop_eq_nil_of_le (by rw [List.length_replicate, HM.out]; omega), List.append_nil] at hrow
  rw [List.length_replicate, HM.out] at hcopy
  have hb : Below w.heap.size w w2 := (below_drewN (Below.refl _ _) nq).alloc (by simp) _ |>.trans hb2
  have hlen : (q.take m).length = m := by rw [List.length_take, HM.out]; omega
  have hown := own_of_row hrow (by omega) (Nat.le_refl w.heap.size)
  rw [hlen] at hown
  have HOWN := Lib.hid hown; have HB2 := Lib.hid hb; have HLEN := Lib.hid hlen
  clear hrd hrow hb2 hb hown hlen
  go_wp2
  go_ret2
  exact ⟨_, rfl, by rw [HLEN.out]; exact HOWN.out, HB2.out⟩

/-- It returns these bytes, which lie where they lay, and no error. -/
def RetPart (q : List Nat) (B : Nat) (w : World) (e : Ending) (w' : World) : Prop := ∃ v', e = .returned (.tuple #[v', .int .i64 0]) ∧ Rd w' B v' (bvals q) ∧ Below w.heap.size w w'

set_option maxHeartbeats 1000000 in
theorem refOpen_ok (w : World) (B : Nat) (v : Value) (q : List Nat) (h : Rd w B v (bvals q)) (hB : B ≤ w.heap.size) (hq : ∀ x ∈ q, x < 256) (hl : q.length ≤ 10000000) (h2 : 2 ≤ q.length) (heq : sumOf (q.take (q.length - 2)) = tailNum q) :
    Calls Try.prog 72 #[v] w (RetPart (q.take (q.length - 2)) B w) := by
  obtain ⟨b, o, c, m, x, y, rfl, hcap, hm, htail, hqq, hs1, hs2, -, -, hrd, -⟩ := open_facts h hq hl h2
  rw [show q.length - 2 = m from by omega] at heq ⊢
  rw [htail] at heq
  have hcl : closed (q.take m) = q := by
    unfold closed
    rw [heq]
    rw [show (x + 256 * y) % 256 = x from by omega, show (x + 256 * y) / 256 = y from by omega]
    exact hqq.symm
  have hsm : ∀ x ∈ q.take m, x < 256 := fun x hx => hq x (List.mem_of_mem_take hx)
  have hlen : (q.take m).length ≤ 10000000 := by rw [List.length_take]; omega
  have HH := Lib.hid h; have HB := Lib.hid hB; have HCL := Lib.hid hcl; have HSM := Lib.hid hsm; have HRD := Lib.hid hrd; have HLEN := Lib.hid hlen
  have hl' : m + 2 ≤ 10000000 := by omega
  clear h hq htail heq h2 hm hB hrd hqq hcl hsm hlen hs1 hs2
  go_enter Try.func72, Try.ntmps72
  go_wp2_with fail
  refine (refClose_any w B _ (q.take m) HRD.out HB.out HSM.out HLEN.out).mono ?_
  rintro e w1 ⟨v1, rfl, ho1, hb1⟩
  rw [HCL.out] at ho1
  have hr1 := Rd.of_own ho1
  have hr2 : Rd w1 w1.heap.size (.slice (some ⟨b, o, none⟩) (m + 2) c) (bvals q) := HH.out.mono (Nat.le_trans HB.out hb1.size) fun p hp => hb1.cell (Nat.lt_of_lt_of_le hp HB.out)
  have HR1 := Lib.hid hr1; have HR2 := Lib.hid hr2; have HB1 := Lib.hid hb1
  clear ho1 hr1 hr2 hb1
  go_wp2_with fail
  refine (refBytes_true w1 w1.heap.size v1 _ q HR1.out HR2.out hl).mono ?_
  rintro e w2 ⟨rfl, k, rfl⟩
  have HF : Hid (Rd (w1.drewN k) B (.slice (some ⟨b, o, none⟩) m c) (bvals (q.take m)) ∧ Below w.heap.size w (w1.drewN k)) :=
    ⟨HRD.out.mono (Nat.le_refl _) fun p hp => HB1.out.cell (Nat.lt_of_lt_of_le hp HB.out), below_drewN HB1.out k⟩
  go_wp2_with fail
  go_ret2
  exact ⟨_, rfl, HF.out.1, HF.out.2⟩

set_option maxHeartbeats 1000000 in
theorem refOpen_bad (w : World) (B : Nat) (v : Value) (q : List Nat) (h : Rd w B v (bvals q)) (hB : B ≤ w.heap.size) (hq : ∀ x ∈ q, x < 256) (hl : q.length ≤ 10000000) (h2 : 2 ≤ q.length) (hne : sumOf (q.take (q.length - 2)) ≠ tailNum q) :
    Calls Try.prog 72 #[v] w fun e w' => e = .returned (.tuple #[.slice none 0 0, .int .i64 3]) ∧ Below w.heap.size w w' := by
  obtain ⟨b, o, c, m, x, y, rfl, hcap, hm, htail, hqq, hs1, hs2, -, -, hrd, -⟩ := open_facts h hq hl h2
  rw [show q.length - 2 = m from by omega] at hne
  rw [htail] at hne
  have hcl : closed (q.take m) ≠ q := by
    intro e
    apply hne
    rw [hqq] at e
    unfold closed at e
    rw [show (q.take m ++ [x, y]).take m = q.take m from by rw [← hqq]] at e
    have e2 := List.append_cancel_left e
    injection e2 with e3 e4
    injection e4 with e5 _
    omega
  have hclen : q.length = (closed (q.take m)).length := by rw [closed_length, List.length_take]; omega
  have hsm : ∀ x ∈ q.take m, x < 256 := fun x hx => hq x (List.mem_of_mem_take hx)
  have hlen : (q.take m).length ≤ 10000000 := by rw [List.length_take]; omega
  have HH := Lib.hid h; have HB := Lib.hid hB; have HCL := Lib.hid hcl; have HCN := Lib.hid hclen; have HSM := Lib.hid hsm; have HRD := Lib.hid hrd; have HLEN := Lib.hid hlen
  have hl' : m + 2 ≤ 10000000 := by omega
  clear h hq htail hne h2 hm hB hrd hqq hcl hclen hsm hlen hs1 hs2
  go_enter Try.func72, Try.ntmps72
  go_wp2_with fail
  refine (refClose_any w B _ (q.take m) HRD.out HB.out HSM.out HLEN.out).mono ?_
  rintro e w1 ⟨v1, rfl, ho1, hb1⟩
  have hr1 := Rd.of_own ho1
  have hr2 : Rd w1 w1.heap.size (.slice (some ⟨b, o, none⟩) (m + 2) c) (bvals q) := HH.out.mono (Nat.le_trans HB.out hb1.size) fun p hp => hb1.cell (Nat.lt_of_lt_of_le hp HB.out)
  have HR1 := Lib.hid hr1; have HR2 := Lib.hid hr2; have HB1 := Lib.hid hb1
  clear ho1 hr1 hr2 hb1
  go_wp2_with fail
  refine (refBytes_false w1 w1.heap.size v1 _ _ q HR1.out HR2.out (by rw [← HCN.out]; exact hl) HCN.out HCL.out).mono ?_
  rintro e w2 ⟨rfl, k, rfl⟩
  have HF := Lib.hid (below_drewN HB1.out k)
  go_wp2_with fail
  go_ret2
  exact ⟨rfl, HF.out⟩

end Go.Proofs.Ythpfhcelmddjlaa
