/- Contracts: bytes with their sum behind: the program's and the document's. -/
import Derived.Test.YthpfhcelmddjlaaBytes
import Derived.Test.YthpfhcelmddjlaaRefOf
import Derived.Laws.CopyOwn
import Derived.Laws.OwnMore
namespace Go.Proofs.Ythpfhcelmddjlaa
open Go.RowKit

theorem Try.size5 : (Try.prog.info? 5).map (·.size) = some 1 := by kernel_rfl

theorem made_bytes (n : Nat) : madeCells (Value.int .u8 0).cells (n * 1) = (bvals (List.replicate n 0)).toArray := by
  apply Array.ext
  · simp [madeCells, bvals]
  · intro i h1 h2
    simp [madeCells, bvals, Value.cells, Nat.mod_one]

theorem make_bytes (n : Nat) (hn : n ≤ 20000000) (w : World) :
    (Instr.makeSlice 35 (.int .i64 (n : Int)) (.int .i64 (n : Int))).run Try.prog w = .ok (.slice (some ⟨w.heap.size, 0, none⟩) n n) (w.alloc (.cells (bvals (List.replicate n 0)).toArray 5)) := by
  obtain ⟨i0, hi, hz0, hz1, hz2⟩ := info_parts Try.info5
  have h := run_make (P := Try.prog) w 35 5 i0 (.int .u8 0) Try.underlying35 hi hz0 .i64 .i64 (n : Int) (n : Int) (by omega) (Int.le_refl _) (by rw [hz2]; omega) (by omega)
  rw [hz1, Int.toNat_natCast, made_bytes] at h
  exact h

/-- A block of bytes that is known whole, as a slice of its own. -/
theorem own_of_row {w : World} {g base : Nat} {l : List Nat} (h : Row w g 5 (bvals l).toArray) (hl : l.length ≤ 20000000) (hb : base ≤ g) :
    w.ownsRow base 5 1 (.slice (some ⟨g, 0, none⟩) l.length l.length) l.length (bvals l) :=
  ⟨by rw [bvals_length]; omega, Or.inr ⟨g, l.length, (bvals l).toArray, rfl, hb, h, Nat.le_refl _, by unfold maxLen; omega, by simp [bvals_length], by simp [bvals_length, List.take_of_length_le]⟩⟩

theorem own_base {w : World} {b b' : Nat} {e : TypeId} {size n : Nat} {v : Value} {xs : List Value} (h : w.ownsRow b e size v n xs) (hb : b' ≤ b) : w.ownsRow b' e size v n xs := by
  obtain ⟨h1, h2⟩ := h
  refine ⟨h1, ?_⟩
  rcases h2 with h2 | ⟨g, cap, cur, rfl, hg, r⟩
  · exact Or.inl h2
  · exact Or.inr ⟨g, cap, cur, rfl, Nat.le_trans hb hg, r⟩

/-- copy into a block that is known whole, from its head on. -/
theorem copy_bytes (w : World) (B g dCap sCap : Nat) (A : Option Addr) (l q : List Nat) (hr : Row w g 5 (bvals l).toArray) (h : Rd w B (.slice A q.length sCap) (bvals q)) :
    ∃ w2, (Builtin.copy_ #[35, 35] 3 #[.slice (some ⟨g, 0, none⟩) l.length dCap, .slice A q.length sCap]).run Try.prog w = .ok (goInt (Nat.min q.length l.length)) w2 ∧
      Row w2 g 5 (bvals (q.take l.length ++ l.drop q.length)).toArray ∧ Below g w w2 := by
  by_cases h0 : Nat.min q.length l.length = 0
  · refine ⟨w, by rw [run_copy_none w 35 35 3 5 _ _ _ _ _ _ Try.underlying35 Try.size5 h0, h0]; rfl, ?_, Below.refl _ _⟩
    have : q.length = 0 ∨ l.length = 0 := by have : min q.length l.length = 0 := h0; omega
    rcases this with e | e
    · have : q = [] := List.eq_nil_of_length_eq_zero e
      subst this; simpa using hr
    · have : l = [] := List.eq_nil_of_length_eq_zero e
      subst this; simpa using hr
  · have hpos : 0 < q.length := by have : ¬ min q.length l.length = 0 := h0; omega
    cases A with
    | none => obtain ⟨hn, _, _⟩ := h.none_nil; omega
    | some ad =>
      have hlen : (bvals (q.take l.length)).length = Nat.min q.length l.length := by
        rw [bvals_length, List.length_take]; exact Nat.min_comm _ _
      have hmin : Nat.min q.length l.length = min q.length l.length := rfl
      have hrun := run_copy_row (P := Try.prog) w 35 35 3 5 g 0 l.length dCap ad q.length sCap (bvals l).toArray 5 (bvals (q.take l.length)) Try.underlying35 Try.size5 hr hlen
        (fun j v hv => h.cells j v (by
          rw [← bvals_take, List.getElem?_take] at hv
          split at hv
          · exact hv
          · cases hv))
        (by rw [hlen, hmin]; simp [bvals_length]; omega) (bvals_one _)
      rw [hlen] at hrun
      refine ⟨_, hrun, ?_, below_setRow (Below.refl _ _) (Nat.le_refl _) _⟩
      have := setRow_heap w g _ ((bvals l).toArray.toList.take 0 ++ bvals (q.take l.length) ++ (bvals l).toArray.toList.drop (0 + Nat.min q.length l.length)).toArray 5 (0, 0) hr
      have e : (bvals l).toArray.toList.take 0 ++ bvals (q.take l.length) ++ (bvals l).toArray.toList.drop (0 + Nat.min q.length l.length) = bvals (q.take l.length ++ l.drop q.length) := by
        rw [hmin]
        by_cases c : q.length ≤ l.length
        · rw [Nat.min_eq_left c]; simp [bvals]
        · rw [Nat.min_eq_right (by omega), List.drop_eq_nil_of_le (show l.length ≤ q.length by omega)]; simp [bvals]
      show Row _ _ _ _
      rw [e] at this ⊢
      exact this

set_option maxHeartbeats 1000000 in
theorem close_any (w : World) (B : Nat) (v : Value) (q : List Nat) (h : Rd w B v (bvals q)) (hB : B ≤ w.heap.size) (hq : ∀ x ∈ q, x < 256) (hl : q.length ≤ 10000000) :
    Calls Try.prog 31 #[v] w (RetBytes (closed q) w) := by
  have HH := Lib.hid h
  obtain ⟨A, c, rfl, -, hA⟩ := h
  simp only [bvals_length] at *
  have HQ := Lib.hid hq; have HB := Lib.hid hB; have HA := Lib.hid hA
  clear hq hB hA
  have hmk := fun W => make_bytes (q.length + 2) (by omega) W
  rw [show ((q.length + 2 : Nat) : Int) = (q.length : Int) + 2 from by omega] at hmk
  generalize hn : q.length = n at *
  have Hn := Lib.hid hn; clear hn
  go_enter Try.func31, Try.ntmps31
  go_wp2_with fail
  refine (of_any w B _ q HH.out HQ.out (by have := Hn.out; omega)).mono ?_
  rintro e w' ⟨rfl, rfl⟩
  have hS := sumOf_lt q
  generalize hSS : sumOf q = S at *
  have HS := Lib.hid hSS; clear hSS
  have hrd : Rd (w.alloc (.cells (bvals (List.replicate (n + 2) 0)).toArray 5)) B (.slice A q.length c) (bvals q) := by
    have := HH.out
    rw [← Hn.out] at this
    exact this.mono (Nat.le_refl _) fun p hp => World.cell?_alloc_lt _ _ _ (Nat.lt_of_lt_of_le hp HB.out)
  obtain ⟨w2, hcopy, hrow, hb2⟩ := copy_bytes _ B w.heap.size (n + 2) c A (List.replicate (n + 2) 0) q (Row.new w 5 _) hrd
  rw [List.length_replicate, List.take_of_length_le (show q.length ≤ n + 2 by have := Hn.out; omega), Hn.out, show (List.replicate (n + 2) 0).drop n = [0, 0] from by simp] at hrow
  rw [List.length_replicate, Hn.out] at hcopy
  have hb : Below w.heap.size w w2 := ((Below.refl _ _).alloc (Nat.le_refl _) _).trans hb2
  have hc1 : w2.cell? ⟨w.heap.size, n, none⟩ = some (.int .u8 0) := by rw [hrow.cell, ← Hn.out]; simp [bvals]
  have hc2 : w2.cell? ⟨w.heap.size, n + 1, none⟩ = some (.int .u8 0) := by rw [hrow.cell, ← Hn.out]; simp [bvals]
  have hf1 := hrow.frozen n
  have hf2 := hrow.frozen (n + 1)
  have hset : (((bvals (q ++ [0, 0])).toArray.setIfInBounds n (.int .u8 ((S % 256 : Nat) : Int))).setIfInBounds (n + 1) (.int .u8 ((S / 256 : Nat) : Int))) = (bvals (closed q)).toArray := by
    unfold closed
    rw [HS.out, ← Hn.out]
    simp [bvals]
  have hfin := (hrow.set n (.int .u8 ((S % 256 : Nat) : Int))).set (n + 1) (.int .u8 ((S / 256 : Nat) : Int))
  rw [hset] at hfin
  have hown := own_of_row hfin (by rw [closed_length]; have := Hn.out; omega) (Nat.le_refl w.heap.size)
  rw [closed_length, Hn.out] at hown
  have HOWN := Lib.hid hown
  have HB2 := Lib.hid ((hb.setCell (p := ⟨w.heap.size, n, none⟩) (Nat.le_refl _) (.int .u8 ((S % 256 : Nat) : Int))).setCell (p := ⟨w.heap.size, n + 1, none⟩) (Nat.le_refl _) (.int .u8 ((S / 256 : Nat) : Int)))
  clear hrd hrow hb2 hb hset hfin hown
  go_wp2_with fail
  go_ret
  refine ⟨_, rfl, ?_, HB2.out⟩
  rw [closed_length, Hn.out]
  exact HOWN.out

set_option maxHeartbeats 1000000 in
theorem refClose_any (w : World) (B : Nat) (v : Value) (q : List Nat) (h : Rd w B v (bvals q)) (hB : B ≤ w.heap.size) (hq : ∀ x ∈ q, x < 256) (hl : q.length ≤ 10000000) :
    Calls Try.prog 19 #[v] w (RetBytes (closed q) w) := by
  have HH := Lib.hid h; have HQ := Lib.hid hq; have HB := Lib.hid hB
  clear h hq hB
  go_enter Try.func19, Try.ntmps19
  go_wp2_with fail
  refine (refOf_any w B _ q HH.out HB.out HQ.out hl).mono ?_
  rintro e w1 ⟨rfl, hb1⟩
  have hS := sumOf_lt q
  generalize hSS : sumOf q = S at *
  have HS := Lib.hid hSS; have HB1 := Lib.hid hb1
  clear hSS hb1
  have hrow : Row (w1.alloc (.cells #[.int .u8 ((S : Int) % 256), .int .u8 ((S : Int) / 256)] 5)) w1.heap.size 5 (bvals [S % 256, S / 256]).toArray := by
    have := Row.new w1 5 #[.int .u8 ((S : Int) % 256), .int .u8 ((S : Int) / 256)]
    simpa [bvals] using this
  have hlit : Rd (w1.alloc (.cells #[.int .u8 ((S : Int) % 256), .int .u8 ((S : Int) / 256)] 5)) (w1.heap.size + 1) (.slice (some ⟨w1.heap.size, 0, none⟩) 2 2) (bvals [S % 256, S / 256]) := by
    have := Rd.of_own (own_of_row hrow (by simp) (Nat.le_refl _))
    simpa using this
  have harg : Rd (w1.alloc (.cells #[.int .u8 ((S : Int) % 256), .int .u8 ((S : Int) / 256)] 5)) (w1.heap.size + 1) v (bvals q) :=
    HH.out.mono (by have := HB.out; have := HB1.out.size; omega) fun p hp => by
      have h1 : p.block < w.heap.size := Nat.lt_of_lt_of_le hp HB.out
      rw [World.cell?_alloc_lt _ _ _ (Nat.lt_of_lt_of_le h1 HB1.out.size), HB1.out.cell h1]
  have hball := HB1.out.alloc HB1.out.size (.cells #[.int .u8 ((S : Int) % 256), .int .u8 ((S : Int) / 256)] 5)
  have HL := Lib.hid hlit; have HR := Lib.hid harg; have HBA := Lib.hid hball
  clear hrow hlit harg hball
  go_wp2_with fail
  refine (join_any _ (w1.heap.size + 1) _ _ q [S % 256, S / 256] HR.out HL.out (by simp) hl (by simp)).mono ?_
  rintro e w2 ⟨v2, rfl, ho2, hb2⟩
  have HO := Lib.hid ho2
  have HBB := Lib.hid (HBA.out.trans (hb2.mono HBA.out.size))
  have HZ := Lib.hid (Nat.le_trans HB1.out.size (show w1.heap.size ≤ (w1.alloc (.cells #[.int .u8 ((S : Int) % 256), .int .u8 ((S : Int) / 256)] 5)).heap.size by simp))
  clear ho2 hb2
  go_wp2_with fail
  go_ret
  refine ⟨_, rfl, ?_, HBB.out⟩
  have e : closed q = q ++ [S % 256, S / 256] := by unfold closed; rw [HS.out]
  rw [e]
  exact own_base HO.out HZ.out

end Go.Proofs.Ythpfhcelmddjlaa
