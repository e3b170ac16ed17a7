/- Contracts: are two lists alike? The program's, and the document's. -/
import Derived.Test.YthpfhcelmddjlaaDecode
namespace Go.Proofs.Ythpfhcelmddjlaa
open Go.RowKit Fl
set_option maxRecDepth 100000

def RetB (b : Bool) (w : World) (e : Ending) (w' : World) : Prop := e = .returned (.bool b) ∧ ∃ n, w' = w.drewN n

theorem take_snoc_eq {α : Type} {xs ys : List α} {i : Nat} (h : xs.take i = ys.take i) (h1 : i < xs.length) (h2 : i < ys.length) (he : xs[i] = ys[i]) : xs.take (i + 1) = ys.take (i + 1) := by
  rw [List.take_succ_eq_append_getElem h1, List.take_succ_eq_append_getElem h2, h, he]

theorem fl_eq_true {x y : Nat} {a b : Int} (h : Fl 0 x a) (h' : Fl 0 y b) (he : a = b) : (FloatKind.f64.format.order x y == some .eq) = true := by
  rw [fl_order h h', he]; simp
theorem fl_eq_false {x y : Nat} {a b : Int} (h : Fl 0 x a) (h' : Fl 0 y b) (he : a ≠ b) : (FloatKind.f64.format.order x y == some .eq) = false := by
  rw [fl_order h h']
  have : compare a b ≠ .eq := fun c => he (Std.compare_eq_iff_eq.1 c)
  simp [this]


set_option maxHeartbeats 2000000 in
theorem ints_any (w : World) (D : Nat) (va vb : Value) (xs ys : List Int) (ha : Rd w D va (ivals xs)) (hb : Rd w D vb (ivals ys)) (hl : xs.length ≤ 1000000) : Calls Try.prog 71 #[va, vb] w (RetB (decide (xs = ys)) w) := by
  have HA := Lib.hid ha; have HB := Lib.hid hb
  obtain ⟨A, c, rfl, -, -⟩ := ha
  obtain ⟨A', c', rfl, -, -⟩ := hb
  simp only [ivals_length] at *
  by_cases hne : xs.length = ys.length
  · obtain ⟨n, hn⟩ : ∃ n, n = xs.length := ⟨_, rfl⟩
    rw [← hne, ← hn]
    rw [← hn] at hl
    have HN : Hid (n = xs.length ∧ n = ys.length) := ⟨hn, by omega⟩
    clear hn hne
    go_enter Try.func71, Try.ntmps71
    go_wp2
    go_loopw [5] (fun t wr => ∃ i : Nat, i ≤ n ∧ t = .int .i64 i ∧ Hid (xs.take i = ys.take i) ∧ ∃ m, wr = w.drewN m) (fun t _ => n - (intOf t).toNat)
    case atStart => exact ⟨0, Nat.zero_le _, rfl, rfl, 0, rfl⟩
    case round =>
      obtain ⟨i, hi, rfl, HE, m, rfl⟩ := hrel
      by_cases hlt : i < n
      · have hix : i < xs.length := by have := HN.out; omega
        have hiy : i < ys.length := by have := HN.out; omega
        have HT : Hid (xs[i] = ys[i] → xs.take (i + 1) = ys.take (i + 1)) := take_snoc_eq HE.out hix hiy
        have HD : Hid (xs[i] ≠ ys[i] → xs ≠ ys) := fun h1 h2 => h1 (by subst h2; rfl)
        obtain ⟨b, o, rfl, _, h1⟩ := HA.out.at (ivals_get xs i hix)
        obtain ⟨b', o', rfl, _, h2⟩ := HB.out.at (ivals_get ys i hiy)
        generalize xs[i] = x at *
        generalize ys[i] = y at *
        by_cases hxy : x = y
        · have HT2 := Lib.hid (HT.out hxy)
          clear HT HD
          subst hxy
          go_wp2
          go_quiet (fail)
          go_wp2
          go_roundw
          case rel => exact ⟨i + 1, by omega, by go_num, HT2, _, rfl⟩
          case measure => simp [intOf]; omega
        · have HD2 := Lib.hid (HD.out hxy)
          have hd : (x == y) = false := by simpa using hxy
          clear hxy HT HD
          go_wp2
          go_quiet (fail)
          go_wp2
          go_ret
          exact ⟨ret_bool (by rw [decide_eq_false HD2.out]), m + nq, World.drewN_drewN _ _ _⟩

      · have HF : Hid (xs = ys) := by
          have := HE.out
          rw [List.take_of_length_le (by have := HN.out; omega), List.take_of_length_le (by have := HN.out; omega)] at this
          exact this
        go_wp2
        go_ret
        exact ⟨ret_bool (by rw [decide_eq_true HF.out]), m, rfl⟩
  · have HF : Hid (xs ≠ ys) := fun h => hne (by rw [h])
    have hcmp : ((xs.length : Int) == (ys.length : Int)) = false := by simp; omega
    clear hne
    generalize xs.length = la at *
    generalize ys.length = lb at *
    go_enter Try.func71, Try.ntmps71
    go_wp2
    go_ret
    exact ⟨ret_bool (by rw [decide_eq_false HF.out]), 0, rfl⟩

set_option maxHeartbeats 2000000 in
theorem equalInts_any (w : World) (D : Nat) (va vb : Value) (xs ys : List Int) (ha : Rd w D va (ivals xs)) (hb : Rd w D vb (ivals ys)) (hl : xs.length ≤ 1000000) : Calls Try.prog 70 #[va, vb] w (RetB (decide (xs = ys)) w) := by
  have HA := Lib.hid ha; have HB := Lib.hid hb
  obtain ⟨A, c, rfl, -, -⟩ := ha
  obtain ⟨A', c', rfl, -, -⟩ := hb
  simp only [ivals_length] at *
  by_cases hne : xs.length = ys.length
  · obtain ⟨n, hn⟩ : ∃ n, n = xs.length := ⟨_, rfl⟩
    rw [← hne, ← hn]
    rw [← hn] at hl
    have HN : Hid (n = xs.length ∧ n = ys.length) := ⟨hn, by omega⟩
    clear hn hne
    go_enter Try.func70, Try.ntmps70
    go_wp2
    go_loopw [13] (fun t wr => ∃ i : Nat, i ≤ n ∧ t = .int .i64 i ∧ Hid (xs.take i = ys.take i) ∧ ∃ m, wr = w.drewN m) (fun t _ => n - (intOf t).toNat)
    case atStart => exact ⟨0, Nat.zero_le _, rfl, rfl, 0, rfl⟩
    case round =>
      obtain ⟨i, hi, rfl, HE, m, rfl⟩ := hrel
      by_cases hlt : i < n
      · have hix : i < xs.length := by have := HN.out; omega
        have hiy : i < ys.length := by have := HN.out; omega
        have HT : Hid (xs[i] = ys[i] → xs.take (i + 1) = ys.take (i + 1)) := take_snoc_eq HE.out hix hiy
        have HD : Hid (xs[i] ≠ ys[i] → xs ≠ ys) := fun h1 h2 => h1 (by subst h2; rfl)
        obtain ⟨b, o, rfl, _, h1⟩ := HA.out.at (ivals_get xs i hix)
        obtain ⟨b', o', rfl, _, h2⟩ := HB.out.at (ivals_get ys i hiy)
        generalize xs[i] = x at *
        generalize ys[i] = y at *
        by_cases hxy : x = y
        · have HT2 := Lib.hid (HT.out hxy)
          clear HT HD
          subst hxy
          go_wp2
          go_quiet (fail)
          go_wp2
          go_roundw
          case rel => exact ⟨i + 1, by omega, by go_num, HT2, _, rfl⟩
          case measure => simp [intOf]; omega
        · have HD2 := Lib.hid (HD.out hxy)
          have hd : (x == y) = false := by simpa using hxy
          clear hxy HT HD
          go_wp2
          go_quiet (fail)
          go_wp2
          go_ret
          exact ⟨ret_bool (by rw [decide_eq_false HD2.out]), m + nq, World.drewN_drewN _ _ _⟩

      · have HF : Hid (xs = ys) := by
          have := HE.out
          rw [List.take_of_length_le (by have := HN.out; omega), List.take_of_length_le (by have := HN.out; omega)] at this
          exact this
        go_wp2
        go_ret
        exact ⟨ret_bool (by rw [decide_eq_true HF.out]), m, rfl⟩
  · have HF : Hid (xs ≠ ys) := fun h => hne (by rw [h])
    have hcmp : ((xs.length : Int) == (ys.length : Int)) = false := by simp; omega
    clear hne
    generalize xs.length = la at *
    generalize ys.length = lb at *
    go_enter Try.func70, Try.ntmps70
    go_wp2
    go_ret
    exact ⟨ret_bool (by rw [decide_eq_false HF.out]), 0, rfl⟩

set_option maxHeartbeats 2000000 in
theorem equalNodes_any (w : World) (D : Nat) (va vb : Value) (ps qs : List (Nat × Nat)) (xs ys : List (Int × Int)) (ha : Rd w D va (nvals ps)) (hb : Rd w D vb (nvals qs)) (hfa : FlN ps xs) (hfb : FlN qs ys) (hl : xs.length ≤ 1000000) : Calls Try.prog 43 #[va, vb] w (RetB (decide (xs = ys)) w) := by
  have HA := Lib.hid ha; have HB := Lib.hid hb; have HFA := Lib.hid hfa; have HFB := Lib.hid hfb
  obtain ⟨A, c, rfl, -, -⟩ := ha
  obtain ⟨A', c', rfl, -, -⟩ := hb
  simp only [nvals_length, hfa.1, hfb.1] at *
  clear hfa hfb
  by_cases hne : xs.length = ys.length
  · obtain ⟨n, hn⟩ : ∃ n, n = xs.length := ⟨_, rfl⟩
    rw [← hne, ← hn]
    rw [← hn] at hl
    have HN : Hid (n = xs.length ∧ n = ys.length) := ⟨hn, by omega⟩
    clear hn hne
    go_enter Try.func43, Try.ntmps43
    go_wp2
    go_loopw [13] (fun t wr => ∃ i : Nat, i ≤ n ∧ t = .int .i64 i ∧ Hid (xs.take i = ys.take i) ∧ ∃ m, wr = w.drewN m) (fun t _ => n - (intOf t).toNat)
    case atStart => exact ⟨0, Nat.zero_le _, rfl, rfl, 0, rfl⟩
    case round =>
      obtain ⟨i, hi, rfl, HE, m, rfl⟩ := hrel
      by_cases hlt : i < n
      · have hix : i < xs.length := by have := HN.out; omega
        have hiy : i < ys.length := by have := HN.out; omega
        have HT : Hid (xs[i] = ys[i] → xs.take (i + 1) = ys.take (i + 1)) := take_snoc_eq HE.out hix hiy
        have HD : Hid (xs[i] ≠ ys[i] → xs ≠ ys) := fun h1 h2 => h1 (by subst h2; rfl)
        have hpx : i < ps.length := by have := HFA.out.1; omega
        have hpy : i < qs.length := by have := HFB.out.1; omega
        obtain ⟨b, o, rfl, _, h1⟩ := HA.out.at (nvals_get ps i hpx)
        obtain ⟨b', o', rfl, _, h2⟩ := HB.out.at (nvals_get qs i hpy)
        have fa := HFA.out.2 i hpx hix
        have fb := HFB.out.2 i hpy hiy
        generalize ps[i].1 = x1 at *
        generalize ps[i].2 = x2 at *
        generalize qs[i].1 = y1 at *
        generalize qs[i].2 = y2 at *
        generalize xs[i] = x at *
        generalize ys[i] = y at *
        by_cases hxy : x = y
        · have HT2 := Lib.hid (HT.out hxy)
          subst hxy
          have c1 := fl_eq_true fa.1 fb.1 rfl
          have c2 := fl_eq_true fa.2 fb.2 rfl
          clear HT HD fa fb
          go_wp2
          go_quiet (fail)
          go_wp2
          go_roundw
          case rel => exact ⟨i + 1, by omega, by go_num, HT2, _, rfl⟩
          case measure => simp [intOf]; omega
        · have HD2 := Lib.hid (HD.out hxy)
          obtain ⟨xa, xb⟩ := x
          obtain ⟨ya, yb⟩ := y
          simp only at fa fb
          by_cases h1' : xa = ya
          · have h2' : xb ≠ yb := by rintro rfl; exact hxy (by rw [h1'])
            have c1 := fl_eq_true fa.1 fb.1 h1'
            have c2 := fl_eq_false fa.2 fb.2 h2'
            clear hxy HT HD fa fb h1' h2'
            go_wp2
            go_quiet (fail)
            go_wp2
            go_ret
            exact ⟨ret_bool (by rw [decide_eq_false HD2.out]), m + nq, World.drewN_drewN _ _ _⟩
          · have c1 := fl_eq_false fa.1 fb.1 h1'
            clear hxy HT HD fa fb h1'
            go_wp2
            go_quiet (fail)
            go_wp2
            go_ret
            exact ⟨ret_bool (by rw [decide_eq_false HD2.out]), m + nq, World.drewN_drewN _ _ _⟩

      · have HF : Hid (xs = ys) := by
          have := HE.out
          rw [List.take_of_length_le (by have := HN.out; omega), List.take_of_length_le (by have := HN.out; omega)] at this
          exact this
        go_wp2
        go_ret
        exact ⟨ret_bool (by rw [decide_eq_true HF.out]), m, rfl⟩
  · have HF : Hid (xs ≠ ys) := fun h => hne (by rw [h])
    have hcmp : ((xs.length : Int) == (ys.length : Int)) = false := by simp; omega
    clear hne
    generalize xs.length = la at *
    generalize ys.length = lb at *
    go_enter Try.func43, Try.ntmps43
    go_wp2
    go_ret
    exact ⟨ret_bool (by rw [decide_eq_false HF.out]), 0, rfl⟩

end Go.Proofs.Ythpfhcelmddjlaa
