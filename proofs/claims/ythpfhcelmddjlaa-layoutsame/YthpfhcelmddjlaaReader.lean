/- Contracts of package bits' Reader: Left, bit, fail, Get, Flag, OK, End. -/
import Derived.Test.YthpfhcelmddjlaaRead
namespace Go.Proofs.Ythpfhcelmddjlaa
open Go.RowKit

/-- The bit at place 'k' of some bytes. -/
def bitQ (q : List Nat) (k : Nat) : Bool := (q.getD (k / 8) 0).testBit (7 - k % 8)

/-- The number of 'i' bits from place 'rd' on, the highest first. -/
def numTo (q : List Nat) (rd : Nat) : Nat → Nat
  | 0 => 0
  | i + 1 => 2 * numTo q rd i + (bitQ q (rd + i)).toNat

theorem numTo_lt (q : List Nat) (rd i : Nat) : numTo q rd i < 2 ^ i := by
  induction i with
  | zero => simp [numTo]
  | succ i ih =>
    have := toNat_le (bitQ q (rd + i))
    rw [numTo, Nat.pow_succ]; omega

theorem left_some (w : World) (B g : Nat) (q : List Nat) (rd : Nat) (fl : Bool) (h : Rr w B g q rd fl) (hq : q.length ≤ 10000000) (hrd : rd ≤ 8 * q.length) :
    Calls Try.prog 38 #[.pointer (some ⟨g, 0, none⟩)] w fun e w' => e = .returned (.int .i64 ((8 * q.length - rd : Nat) : Int)) ∧ ∃ n, w' = w.drewN n := by
  obtain ⟨v, hr, ho⟩ := h
  obtain ⟨A, c, rfl, _⟩ := Rd.of_own ho
  have h0 := hr.cell 0; have h1 := hr.cell 1
  simp only [List.getElem?_toArray, List.getElem?_cons_zero, List.getElem?_cons_succ, bvals_length] at h0 h1
  clear hr ho
  generalize q.length = n at *
  have hf : ((8 * n - rd : Nat) : Int) = (n : Int) * 8 - rd := by omega
  have Hf := Lib.hid hf; clear hf
  have b1 : (n : Int) ≤ 10000000 := by omega
  have b2 : (rd : Int) ≤ 80000000 := by omega
  have e1 : IntKind.i64.wrap ((n : Int) * 8) = (n : Int) * 8 := IntWalk.i64_in _ (by omega)
  have e2 : IntKind.i64.wrap ((n : Int) * 8 - rd) = (n : Int) * 8 - rd := IntWalk.i64_in _ (by omega)
  go_enter Try.func38, Try.ntmps38
  go_wp2
  go_quiet (fail)
  go_wp2
  go_ret
  exact ⟨ret_int (by rw [Hf.out]), _, rfl⟩

theorem bitQ_eq (y k : Nat) (hy : y < 256) : bits .and .u8 ((y : Int) / 2 ^ (7 - k % 8)) 1 = ((y.testBit (7 - k % 8)).toNat : Int) := by
  have h := bit_eq y (7 - k % 8)
  have h2 : (y : Int) / 2 ^ (7 - k % 8) % 256 = (y : Int) / 2 ^ (7 - k % 8) := by
    have : (y : Int) / 2 ^ (7 - k % 8) = ((y / 2 ^ (7 - k % 8) : Nat) : Int) := by simp
    rw [this]
    have h3 := Nat.div_le_self y (2 ^ (7 - k % 8))
    generalize y / 2 ^ (7 - k % 8) = z at h3
    omega
  rw [h2] at h
  exact h

theorem bit_some (w : World) (B g : Nat) (q : List Nat) (rd : Nat) (fl : Bool) (k : Nat) (h : Rr w B g q rd fl) (hb : ∀ x ∈ q, x < 256) (hq : q.length ≤ 10000000) (hk : k < 8 * q.length) :
    Calls Try.prog 81 #[.pointer (some ⟨g, 0, none⟩), .int .i64 (k : Int)] w fun e w' => e = .returned (.int .u8 ((bitQ q k).toNat : Int)) ∧ w = w' := by
  obtain ⟨v, hr, ho⟩ := h
  obtain ⟨r, cap, rfl⟩ : ∃ r cap, v = .slice (some ⟨r, 0, none⟩) q.length cap := by
    rcases ho.2 with ⟨_, h⟩ | ⟨r, cap, _, h, _⟩
    · omega
    · exact ⟨r, cap, h⟩
  have h0 := hr.cell 0
  simp only [List.getElem?_toArray, List.getElem?_cons_zero] at h0
  have h1 : w.cell? ⟨r, k / 8, none⟩ = some (.int .u8 ((q.getD (k / 8) 0 : Nat) : Int)) := by
    rw [ho.cellAt _ (by omega), bvals_get _ _ (by omega)]
    simp [List.getD, show k / 8 < q.length by omega]
  have hy : q.getD (k / 8) 0 < 256 := by
    have : q.getD (k / 8) 0 = q[k / 8]'(by omega) := by simp [List.getD, show k / 8 < q.length by omega]
    rw [this]; exact hb _ (List.getElem_mem _)
  have hres := bitQ_eq (q.getD (k / 8) 0) k hy
  have hbq : bitQ q k = (q.getD (k / 8) 0).testBit (7 - k % 8) := rfl
  have Hres := Lib.hid hres; have Hbq := Lib.hid hbq
  clear hr ho hres hbq hb
  generalize q.getD (k / 8) 0 = y at *
  generalize q.length = n at *
  have d1 : (k : Int).tdiv 8 = ((k / 8 : Nat) : Int) := by rw [Int.tdiv_eq_ediv_of_nonneg (by omega)]; omega
  have d2 : k / 8 < n := by omega
  have d3 : 0 ≤ 7 - (k : Int) % 8 := by omega
  have d4 : (7 - (k : Int) % 8).toNat = 7 - k % 8 := by omega
  go_enter Try.func81, Try.ntmps81
  go_wp2
  go_ret
  exact ⟨ret_int (by rw [Hres.out, Hbq.out]), rfl⟩

/-- Nothing has turned but block 'g'. -/
def Only (g : Nat) (w w' : World) : Prop := ∀ C, Kept C g w w'

theorem Only.refl (g : Nat) (w : World) : Only g w w := fun _ => Kept.refl _ _ _
theorem Only.trans {g : Nat} {a b c : World} (h : Only g a b) (k : Only g b c) : Only g a c := fun C => (h C).trans (k C)
theorem Only.set {g i : Nat} {a w : World} (h : Only g a w) (u : Value) : Only g a (w.setCell ⟨g, i, none⟩ u) := fun C => (h C).set (Or.inr rfl) u
theorem Only.drewN {g : Nat} {a w : World} (h : Only g a w) (n : Nat) : Only g a (w.drewN n) := fun C => ⟨(h C).os, (h C).tape, (h C).output, (h C).size, (h C).block⟩
theorem Only.size {g : Nat} {w w' : World} (h : Only g w w') : w.heap.size ≤ w'.heap.size := (h 0).size

theorem fail_some (w : World) (B g : Nat) (q : List Nat) (rd : Nat) (fl : Bool) (h : Rr w B g q rd fl) :
    Calls Try.prog 80 #[.pointer (some ⟨g, 0, none⟩)] w fun e w' => e = .returned (.tuple #[]) ∧ Rr w' B g [] 0 true ∧ Only g w w' := by
  obtain ⟨v, hr, ho⟩ := h
  have h0 := hr.cell 0; have h1 := hr.cell 1; have h2 := hr.cell 2; have f0 := hr.frozen 0; have f1 := hr.frozen 1; have f2 := hr.frozen 2
  simp only [List.getElem?_toArray, List.getElem?_cons_zero, List.getElem?_cons_succ] at h0 h1 h2
  have HR := Lib.hid hr
  clear hr ho
  go_enter Try.func80, Try.ntmps80
  go_wp2
  go_end0
  exact ⟨rfl, ⟨.slice none 0 0, ((HR.out.set 0 _).set 1 _).set 2 _, World.ownsRow_nil _ _ _ _⟩, (((Only.refl g w).set _).set _).set _⟩

theorem ok_some (w : World) (B g : Nat) (q : List Nat) (rd : Nat) (fl : Bool) (h : Rr w B g q rd fl) :
    Calls Try.prog 37 #[.pointer (some ⟨g, 0, none⟩)] w fun e w' => e = .returned (.bool (!fl)) ∧ w = w' := by
  obtain ⟨v, hr, ho⟩ := h
  have h2 := hr.cell 2
  simp only [List.getElem?_toArray, List.getElem?_cons_zero, List.getElem?_cons_succ] at h2
  clear hr ho
  go_enter Try.func37, Try.ntmps37
  go_wp2
  go_ret
  exact ⟨rfl, rfl⟩

theorem get_short (w : World) (B g : Nat) (q : List Nat) (rd : Nat) (fl : Bool) (width : Int) (h : Rr w B g q rd fl) (hq : q.length ≤ 10000000) (hrd : rd ≤ 8 * q.length) (hs : ((8 * q.length - rd : Nat) : Int) < min (max width 0) 64) :
    Calls Try.prog 57 #[.pointer (some ⟨g, 0, none⟩), .int .i64 width] w fun e w' => e = .returned (.int .u64 0) ∧ Rr w' B g [] 0 true ∧ Only g w w' := by
  have H := Lib.hid h; clear h
  have hd : decide (((8 * q.length - rd : Nat) : Int) < min (max width 0) 64) = true := decide_eq_true hs
  generalize hm : min (max width 0) 64 = m at *
  have Hm := Lib.hid hm; clear hm
  generalize hn : ((8 * q.length - rd : Nat) : Int) = n at *
  have Hn := Lib.hid hn; clear hn
  go_enter Try.func57, Try.ntmps57
  go_wp2_with fail
  refine (within_any width _).mono ?_; rintro e w' ⟨rfl, rfl⟩
  rw [Hm.out]
  go_wp2_with fail
  refine (left_some w B g q rd fl H.out hq hrd).mono ?_; rintro e w' ⟨rfl, k, rfl⟩
  rw [Hn.out]
  go_wp2_with fail
  refine (fail_some (w.drewN k) B g q rd fl H.out).mono ?_; rintro e w' ⟨rfl, h1, h2⟩
  have H2 : Hid (Rr w' B g [] 0 true ∧ Only g w w') := ⟨h1, ((Only.refl g w).drewN k).trans h2⟩
  clear h1 h2
  go_wp2_with fail
  go_ret
  exact ⟨rfl, H2.out⟩

theorem u64_or_bit (n : Nat) (b : Bool) (hn : n < 2 ^ 63) : bits .or .u64 ((n : Int) * 2) (b.toNat : Int) = ((2 * n + b.toNat : Nat) : Int) := by
  have hb := toNat_le b
  have e : (n : Int) * 2 = ((2 * n : Nat) : Int) := by omega
  rw [e, u64_or_nat _ _ (by omega) (by omega), nat_join 1 _ _ (by omega) (by omega)]

set_option maxHeartbeats 1000000 in
theorem get_keep (w : World) (B g : Nat) (v : Value) (q : List Nat) (rd : Nat) (fl : Bool) (width : Int) (hr0 : Row w g 99 #[v, .int .i64 (rd : Int), .bool fl]) (ho0 : w.ownsRow B 5 1 v q.length (bvals q)) (hb : ∀ x ∈ q, x < 256) (hq : q.length ≤ 10000000) (hrd : rd ≤ 8 * q.length) (hs : min (max width 0) 64 ≤ ((8 * q.length - rd : Nat) : Int)) :
    Calls Try.prog 57 #[.pointer (some ⟨g, 0, none⟩), .int .i64 width] w fun e w' => e = .returned (.int .u64 (numTo q rd (min (max width 0) 64).toNat : Int)) ∧ Row w' g 99 #[v, .int .i64 ((rd + (min (max width 0) 64).toNat : Nat) : Int), .bool fl] ∧ Only g w w' := by
  have H : Hid (Rr w B g q rd fl) := ⟨v, hr0, ho0⟩
  have hkeep : ∀ wr, Only g w wr → wr.ownsRow B 5 1 v q.length (bvals q) := fun wr ho => (ho w.heap.size).owns ho0 fun k hk => ⟨(ho0.lt k hk).2, fun e => own_ne ho0 hr0 (by decide) (by rw [hk, e])⟩
  have HKP := Lib.hid hkeep; have HR0 := Lib.hid hr0
  clear hkeep hr0 ho0
  obtain ⟨W, hWd⟩ : ∃ W : Nat, min (max width 0) 64 = (W : Int) := ⟨(min (max width 0) 64).toNat, by omega⟩
  have W64 : W ≤ 64 := by omega
  rw [hWd] at hs
  rw [hWd, Int.toNat_natCast]
  have HWd := Lib.hid hWd; clear hWd
  have hd : decide (((8 * q.length - rd : Nat) : Int) < (W : Int)) = false := decide_eq_false (by omega)
  have hs' : rd + W ≤ 8 * q.length := by omega
  clear hs
  generalize hn : ((8 * q.length - rd : Nat) : Int) = n at *
  have Hn := Lib.hid hn; clear hn
  have HB := Lib.hid hb; clear hb
  go_enter Try.func57, Try.ntmps57
  go_wp2_with fail
  refine (within_any width _).mono ?_; rintro e w' ⟨rfl, rfl⟩
  rw [HWd.out]
  go_wp2_with fail
  refine (left_some w B g q rd fl H.out hq hrd).mono ?_; rintro e w' ⟨rfl, k, rfl⟩
  rw [Hn.out]
  go_wp2_with fail
  go_loopw [5, 17] (fun t c wr => ∃ i : Nat, i ≤ W ∧ c = .int .i64 i ∧ t = .int .u64 (numTo q rd i : Int) ∧ Hid (Row wr g 99 #[v, .int .i64 ((rd + i : Nat) : Int), .bool fl] ∧ Only g w wr)) (fun _ c _ => W - (intOf c).toNat)
  case atStart => exact ⟨0, Nat.zero_le _, rfl, rfl, HR0.out, (Only.refl g w).drewN k⟩
  case round =>
    obtain ⟨i, hi, rfl, rfl, H2⟩ := hrel
    by_cases hlt : i < W
    · have hr := H2.out.1
      have ho := HKP.out wr H2.out.2
      have h1 := hr.cell 1; have f1 := hr.frozen 1
      simp only [List.getElem?_toArray, List.getElem?_cons_zero, List.getElem?_cons_succ] at h1
      have HR := Lib.hid hr; have HO := Lib.hid ho
      clear hr ho
      have nl : numTo q rd i < 2 ^ 63 := Nat.lt_of_lt_of_le (numTo_lt q rd i) (Nat.pow_le_pow_right (by decide) (by omega))
      have hor := u64_or_bit (numTo q rd i) (bitQ q (rd + i)) nl
      have hsc : numTo q rd (i + 1) = 2 * numTo q rd i + (bitQ q (rd + i)).toNat := rfl
      rw [← hsc] at hor
      have hwr : IntKind.u64.wrap ((numTo q rd i : Int) * 2) = (numTo q rd i : Int) * 2 := by
        rw [show IntKind.u64.wrap ((numTo q rd i : Int) * 2) = ((numTo q rd i : Int) * 2) % 18446744073709551616 from by simp [IntKind.wrap, IntKind.bits, IntKind.signed]]
        omega
      have HOR := Lib.hid hor; have HWR := Lib.hid hwr
      clear hor hwr nl hsc
      generalize hN : (numTo q rd i : Int) = N at *
      clear hN
      have hbt := toNat_le (bitQ q (rd + i))
      go_wp2_with fail
      rw [HWR.out, show ((rd : Int) + (i : Int)) = ((rd + i : Nat) : Int) from by simp]
      refine (bit_some wr B g q (rd + i) fl (rd + i) ⟨v, HR.out, HO.out⟩ HB.out hq (by omega)).mono ?_
      rintro e w' ⟨rfl, rfl⟩
      generalize (bitQ q (rd + i)).toNat = bt at *
      go_wp2_with fail
      rw [HOR.out]
      have hr2 := HR.out.set 1 (.int .i64 ((rd : Int) + i + 1))
      have H3 : Hid (Row (wr.setCell ⟨g, 1, none⟩ (.int .i64 ((rd : Int) + i + 1))) g 99 #[v, .int .i64 ((rd + (i + 1) : Nat) : Int), .bool fl] ∧ Only g w (wr.setCell ⟨g, 1, none⟩ (.int .i64 ((rd : Int) + i + 1)))) :=
        ⟨by rw [show ((rd + (i + 1) : Nat) : Int) = (rd : Int) + i + 1 from by omega]; exact hr2, H2.out.2.set _⟩
      clear hr2
      go_roundw
      case rel => exact ⟨i + 1, by omega, by go_num, rfl, H3⟩
      case measure => simp [intOf]; omega
    · obtain rfl : i = W := by omega
      go_wp2_with fail
      go_ret
      exact ⟨rfl, H2.out⟩

/-- What was owned, in another block than 'g', is owned still. -/
theorem Only.owns {g : Nat} {w w' : World} (h : Only g w w') {base : Nat} {e : TypeId} {size n : Nat} {v : Value} {xs : List Value} {t : TypeId} {cs : Array Value} (ho : w.ownsRow base e size v n xs) (hr : Row w g t cs) (ht : e ≠ t) : w'.ownsRow base e size v n xs :=
  (h w.heap.size).owns ho fun k hk => ⟨(ho.lt k hk).2, fun e => own_ne ho hr ht (by rw [hk, e])⟩

theorem get_long (w : World) (B g : Nat) (q : List Nat) (rd : Nat) (fl : Bool) (width : Int) (h : Rr w B g q rd fl) (hb : ∀ x ∈ q, x < 256) (hq : q.length ≤ 10000000) (hrd : rd ≤ 8 * q.length) (hs : min (max width 0) 64 ≤ ((8 * q.length - rd : Nat) : Int)) :
    Calls Try.prog 57 #[.pointer (some ⟨g, 0, none⟩), .int .i64 width] w fun e w' => e = .returned (.int .u64 (numTo q rd (min (max width 0) 64).toNat : Int)) ∧ Rr w' B g q (rd + (min (max width 0) 64).toNat) fl ∧ Only g w w' := by
  obtain ⟨v, hr, ho⟩ := h
  exact (get_keep w B g v q rd fl width hr ho hb hq hrd hs).mono fun _ _ ⟨he, hr', hk⟩ => ⟨he, ⟨v, hr', hk.owns ho hr (by decide)⟩, hk⟩

theorem ret_bool {a b : Bool} (h : a = b) : Ending.returned (.bool a) = .returned (.bool b) := by rw [h]

end Go.Proofs.Ythpfhcelmddjlaa
