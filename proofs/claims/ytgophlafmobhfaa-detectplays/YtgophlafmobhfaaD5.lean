/- Contracts: Step of no filter; the document's Count, Clear; Booleans held against one another; Join. -/
import Derived.Test.YtgophlafmobhfaaD4
namespace Go.Proofs.Ytgophlafmobhfaa
open Go.RowKit
set_option maxRecDepth 100000

theorem step_nil (w : World) (v : Value) : Calls Try.prog 10 #[.pointer none, v] w fun e w' => e = .returned (.slice none 0 0) ∧ w = w' := by
  go_enter Try.func10, Try.ntmps10
  go_wp2_with fail
  go_ret
  exact ⟨rfl, rfl⟩

/-- How many noughts stand at the head. -/
def tz : List Nat → Nat
  | [] => 0
  | b :: r => if b = 0 then tz r + 1 else 0
theorem tz_ge : ∀ (l : List Nat) (n : Nat), n ≤ l.length → (∀ j (hj : j < l.length), j < n → l[j] = 0) → n ≤ tz l
  | [], n, h, _ => by simp at h; omega
  | b :: r, 0, _, _ => Nat.zero_le _
  | b :: r, n + 1, h, hz => by
    have h0 : b = 0 := hz 0 (by simp) (by omega)
    unfold tz
    rw [if_pos h0]
    have := tz_ge r n (by simpa using h) (fun j hj hjn => by have := hz (j + 1) (by simpa using hj) (by omega); simpa using this)
    omega
theorem tz_le : ∀ (l : List Nat) (n : Nat) (h : n < l.length), l[n] ≠ 0 → tz l ≤ n
  | [], n, h, _ => by simp at h
  | b :: r, 0, _, hz => by
    have : b ≠ 0 := by simpa using hz
    unfold tz; rw [if_neg this]; exact Nat.le_refl _
  | b :: r, n + 1, h, hz => by
    unfold tz
    split
    · have := tz_le r n (by simpa using h) (by simpa using hz); omega
    · omega
theorem tz_len : ∀ l : List Nat, tz l ≤ l.length
  | [] => Nat.le_refl _
  | b :: r => by unfold tz; have := tz_len r; split <;> simp <;> omega

/-- The document's count of what was said, the newest last. -/
def cntL (l : List Nat) : Nat := min (tz l.reverse) 1001
theorem cntL_nil : cntL [] = 0 := rfl
theorem cntL_snoc (l : List Nat) (b : Nat) : (cntL (l ++ [b]) : Int) = nextC (cntL l : Int) (b == 0) := by
  unfold cntL nextC
  rw [List.reverse_append]
  have e : tz ([b].reverse ++ l.reverse) = if b = 0 then tz l.reverse + 1 else 0 := rfl
  rw [e]
  by_cases h : b = 0
  · subst h; simp; omega
  · have : (b == 0) = false := by simpa using h
    rw [this, if_neg h]; simp

/-- The last 'n' are noughts. -/
def Tail (l : List Nat) (n : Nat) : Prop := n ≤ l.length ∧ ∀ j (hj : j < l.length), l.length ≤ j + n → l[j] = 0
theorem Tail.ge {l : List Nat} {n : Nat} (h : Tail l n) : n ≤ tz l.reverse := by
  refine tz_ge _ n (by simpa using h.1) fun j hj hjn => ?_
  rw [List.getElem_reverse]
  simp only [List.length_reverse] at hj
  exact h.2 _ _ (by omega)
theorem Tail.stop {l : List Nat} {n : Nat} (h : Tail l n) (hn : n ≤ 1001) {i : Nat} (hi : i < l.length) (hin : i + 1 + n = l.length) (hz : l[i] ≠ 0) : n = cntL l := by
  have h1 := h.ge
  have h2 := tz_le l.reverse n (by simp; omega) (by
    rw [List.getElem_reverse]
    have e : l.length - 1 - n = i := by omega
    simp only [e]; exact hz)
  unfold cntL; omega
theorem Tail.all {l : List Nat} {n : Nat} (h : Tail l n) (hn : n ≤ 1001) (he : n = l.length) : n = cntL l := by
  have h1 := h.ge
  have h2 := tz_len l.reverse
  simp only [List.length_reverse] at h2
  unfold cntL; omega
theorem Tail.most {l : List Nat} {n : Nat} (h : Tail l n) (hn : n = 1001) : n = cntL l := by
  have h1 := h.ge
  unfold cntL; omega
theorem Tail.succ {l : List Nat} {n : Nat} (h : Tail l n) {i : Nat} (hi : i < l.length) (hin : i + 1 + n = l.length) (hz : l[i] = 0) : Tail l (n + 1) := by
  refine ⟨by omega, fun j hj hjn => ?_⟩
  by_cases c : l.length ≤ j + n
  · exact h.2 j hj c
  · obtain rfl : j = i := by omega
    exact hz

set_option maxHeartbeats 2000000 in
theorem refCount_any (w : World) (D : Nat) (v : Value) (l : List Nat) (h : Rd w D v (bvals l)) (hl : l.length ≤ 1000000) : Calls Try.prog 14 #[v] w fun e w' => e = .returned (.int .i64 (cntL l : Int)) ∧ w = w' := by
  have HR := Lib.hid h
  obtain ⟨A, c, rfl, -, -⟩ := h
  simp only [bvals_length] at *
  obtain ⟨m, hm⟩ : ∃ m, l.length = m := ⟨_, rfl⟩
  rw [hm] at HR hl ⊢
  have HM := Lib.hid hm
  clear hm
  have hw0 : IntKind.i64.wrap ((m : Int) - 1) = (m : Int) - 1 := IntWalk.i64_in _ (by omega)
  go_enter Try.func14, Try.ntmps14
  go_wp2_with fail
  go_loopw [3, 4] (fun a b wr => ∃ n : Nat, n ≤ m ∧ n ≤ 1001 ∧ a = .int .i64 n ∧ (∃ j : Int, b = .int .i64 j ∧ Hid (j = (m : Int) - 1 - n)) ∧ Hid (Tail l n) ∧ wr = w) (fun a _ _ => m - (intOf a).toNat)
  case atStart => exact ⟨0, Nat.zero_le _, by omega, rfl, ⟨_, rfl, by show _ = _; omega⟩, ⟨Nat.zero_le _, fun j hj h0 => by omega⟩, rfl⟩
  case round =>
    obtain ⟨n, hn, hn1, rfl, ⟨ij, rfl, HI⟩, HT, hwr⟩ := hrel
    have h2 := hwr.symm
    subst h2
    clear hwr
    by_cases hlt : n < m
    · obtain ⟨i, hi⟩ : ∃ i : Nat, ij = (i : Int) := ⟨m - 1 - n, by have := HI.out; omega⟩
      subst hi
      have hil : i < l.length := by have := HM.out; have := HI.out; omega
      have hin : i + 1 + n = l.length := by have := HM.out; have := HI.out; omega
      have him : i < m := by have := HI.out; omega
      obtain ⟨b, o, rfl, _, k0⟩ := HR.out.at (bvals_get l i hil)
      have HS1 : Hid (l[i] = 0 → Tail l (n + 1)) := fun hz => HT.out.succ hil hin hz
      have HS2 : Hid (l[i] ≠ 0 → n = cntL l) := fun hz => HT.out.stop hn1 hil hin hz
      generalize l[i] = x at *
      clear hil hin
      by_cases hx : x = 0
      · subst hx
        by_cases hn2 : n < 1001
        · have hd : ((n : Int) < 1001) := by omega
          have HN := Lib.hid (HS1.out rfl)
          have hw1 : IntKind.i64.wrap ((i : Int) - 1) = (i : Int) - 1 := IntWalk.i64_in _ (by omega)
          have hw2 : IntKind.i64.wrap ((n : Int) + 1) = (n : Int) + 1 := IntWalk.i64_in _ (by omega)
          clear HS1 HS2 HT
          go_wp2_with fail
          go_roundw
          case rel => exact ⟨n + 1, by omega, by omega, by go_num, ⟨_, rfl, by have := HI.out; show _ = _; omega⟩, HN, trivial⟩
          case measure => simp [intOf]; omega
        · have hd : ¬ ((n : Int) < 1001) := by omega
          have HE := Lib.hid (HT.out.most (by omega))
          clear HS1 HS2 HT
          go_wp2_with fail
          go_ret
          exact ⟨ret_int (by rw [HE.out]), rfl⟩
      · have HE := Lib.hid (HS2.out hx)
        have hx2 : ((x : Int) == 0) = false := by simpa using hx
        clear HS1 HS2 HT
        go_wp2_with fail
        go_ret
        exact ⟨ret_int (by rw [HE.out]), rfl⟩
    · have HE := Lib.hid (HT.out.all hn1 (by have := HM.out; omega))
      have hlt2 : ij < 0 := by have := HI.out; omega
      clear HT
      go_wp2_with fail
      go_ret
      exact ⟨ret_int (by rw [HE.out]), rfl⟩

set_option maxHeartbeats 1000000 in
theorem refClear_any (w : World) (D : Nat) (v : Value) (l : List Nat) (s : Int) (h : Rd w D v (bvals l)) (hl : l.length ≤ 1000000) : Calls Try.prog 11 #[v, .int .i64 s] w fun e w' => e = .returned (.bool (decide (stayS s < (cntL l : Int)))) ∧ w = w' := by
  have HC := Lib.hid (refCount_any w D v l h hl)
  generalize (cntL l : Int) = n at *
  clear h hl
  by_cases h1 : s < 0
  · have e : stayS s = 0 := by unfold stayS; omega
    rw [e]
    clear e
    go_enter Try.func11, Try.ntmps11
    go_wp2_with fail
    refine HC.out.mono ?_; rintro e w' ⟨rfl, rfl⟩
    go_wp2_with fail
    go_ret
    exact ⟨rfl, rfl⟩
  · by_cases h2 : 1000 < s
    · have e : stayS s = 1000 := by unfold stayS; omega
      rw [e]
      clear e
      go_enter Try.func11, Try.ntmps11
      go_wp2_with fail
      refine HC.out.mono ?_; rintro e w' ⟨rfl, rfl⟩
      go_wp2_with fail
      go_ret
      exact ⟨rfl, rfl⟩
    · have e : stayS s = s := by unfold stayS; omega
      rw [e]
      clear e
      go_enter Try.func11, Try.ntmps11
      go_wp2_with fail
      refine HC.out.mono ?_; rintro e w' ⟨rfl, rfl⟩
      go_wp2_with fail
      go_ret
      exact ⟨rfl, rfl⟩

def cvals (l : List Bool) : List Value := l.map Value.bool
theorem cvals_length (l : List Bool) : (cvals l).length = l.length := by simp [cvals]
theorem cvals_get (l : List Bool) (i : Nat) (h : i < l.length) : (cvals l)[i]? = some (.bool l[i]) := by simp [cvals, h]

set_option maxHeartbeats 2000000 in
theorem bools_any (w : World) (D : Nat) (va vb : Value) (xs ys : List Bool) (ha : Rd w D va (cvals xs)) (hb : Rd w D vb (cvals ys)) (hl : xs.length ≤ 1000000) : Calls Try.prog 16 #[va, vb] w (RetB (decide (xs = ys)) w) := by
  have HA := Lib.hid ha; have HB := Lib.hid hb
  obtain ⟨A, c, rfl, -, -⟩ := ha
  obtain ⟨A', c', rfl, -, -⟩ := hb
  simp only [cvals_length] at *
  by_cases hne : xs.length = ys.length
  · obtain ⟨n, hn⟩ : ∃ n, n = xs.length := ⟨_, rfl⟩
    rw [← hne, ← hn]
    rw [← hn] at hl
    have HN : Hid (n = xs.length ∧ n = ys.length) := ⟨hn, by omega⟩
    clear hn hne
    go_enter Try.func16, Try.ntmps16
    go_wp2
    go_loopw [5] (fun t wr => ∃ i : Nat, i ≤ n ∧ t = .int .i64 i ∧ Hid (xs.take i = ys.take i) ∧ ∃ m, wr = w.drewN m) (fun t _ => n - (intOf t).toNat)
    case atStart => exact ⟨0, Nat.zero_le _, rfl, rfl, 0, rfl⟩
    case round =>
      obtain ⟨i, hi, rfl, HE, m, rfl⟩ := hrel
      by_cases hlt : i < n
      · have hix : i < xs.length := by have := HN.out; omega
        have hiy : i < ys.length := by have := HN.out; omega
        have HT : Hid (xs[i] = ys[i] → xs.take (i + 1) = ys.take (i + 1)) := take_snoc_eq HE.out hix hiy
        have HD : Hid (xs[i] ≠ ys[i] → xs ≠ ys) := fun h1 h2 => h1 (by subst h2; rfl)
        obtain ⟨b, o, rfl, _, h1⟩ := HA.out.at (cvals_get xs i hix)
        obtain ⟨b', o', rfl, _, h2⟩ := HB.out.at (cvals_get ys i hiy)
        generalize xs[i] = x at *
        generalize ys[i] = y at *
        by_cases hxy : x = y
        · have HT2 := Lib.hid (HT.out hxy)
          clear HT HD
          subst hxy
          have hxx : (x == x) = true := by cases x <;> rfl
          go_wp2
          go_quiet (fail)
          go_wp2
          go_roundw
          case rel => exact ⟨i + 1, by omega, by go_num, HT2, _, rfl⟩
          case measure => simp [intOf]; omega
        · have HD2 := Lib.hid (HD.out hxy)
          have hd : (x == y) = false := by simpa using hxy
          clear hxy HT HD
          go_wp2
          go_quiet (fail)
          go_wp2
          go_ret
          exact ⟨ret_bool (by rw [decide_eq_false HD2.out]), m + nq, World.drewN_drewN _ _ _⟩

      · have HF : Hid (xs = ys) := by
          have := HE.out
          rw [List.take_of_length_le (by have := HN.out; omega), List.take_of_length_le (by have := HN.out; omega)] at this
          exact this
        go_wp2
        go_ret
        exact ⟨ret_bool (by rw [decide_eq_true HF.out]), m, rfl⟩
  · have HF : Hid (xs ≠ ys) := fun h => hne (by rw [h])
    have hcmp : ((xs.length : Int) == (ys.length : Int)) = false := by simp; omega
    clear hne
    generalize xs.length = la at *
    generalize ys.length = lb at *
    go_enter Try.func16, Try.ntmps16
    go_wp2
    go_ret
    exact ⟨ret_bool (by rw [decide_eq_false HF.out]), 0, rfl⟩

theorem Try.info5 : (Try.prog.info? 5).map (fun i => (i.zero, i.size, i.bytes)) = some (some (.int .u8 0), 1, 1) := by kernel_rfl
theorem bvals_one (q : List Nat) : ∀ u ∈ bvals q, u.oneCell' = true := by
  intro u hu; simp only [bvals, List.mem_map] at hu; obtain ⟨x, _, rfl⟩ := hu; rfl

/-- It returns a slice of its own with these bytes; nothing that was there has turned. -/
def RetBytes (q : List Nat) (w : World) (e : Ending) (w' : World) : Prop := ∃ v', e = .returned v' ∧ w'.ownsRow w.heap.size 5 1 v' q.length (bvals q) ∧ Below w.heap.size w w'

set_option maxHeartbeats 1000000 in
theorem join_none (w : World) (B : Nat) (ad : Addr) (q : List Nat) (c : Nat) (h : Rd w B (.slice (some ad) q.length c) (bvals q)) (hl : q.length ≤ 140737488355328) :
    Calls Try.prog 15 #[.slice (some ad) q.length c, .slice none 0 0] w (RetBytes q w) := by
  obtain ⟨i0, hi, hz0, hz1, hz2⟩ := info_parts Try.info5
  have Hc := Lib.hid h.cells
  clear h
  go_enter Try.func15, Try.ntmps15
  go_wp2_with (at_builtin; refine wpList_append_own _ rfl (.tmp 6) (.tmp 7) 28 rfl w.heap.size 5 i0 (.int .u8 0) 1 1 Try.underlying28 hi hz0 hz1 hz2 rfl (by decide) _ 0 [] rfl (World.ownsRow_nil _ _ _ _) ad _ _ (bvals q) rfl (by rw [bvals_length]; omega) Hc.out (bvals_one q) (by unfold maxLen; omega) (by omega) (Nat.le_refl _) ?_)
  intro v' w1 hown1 hgrow _
  have hb : Below w.heap.size w w1 := (Below.refl _ _).grown hgrow (Nat.le_refl _) (fun k hk => by simp [Value.ownBlock] at hk)
  have HO := Lib.hid hown1; have HB := Lib.hid hb
  clear hown1 hb hgrow
  go_wp2_with (at_builtin; refine wpList_append_own_none rfl (.tmp 9) (.tmp 10) 28 rfl w.heap.size 5 i0 1 Try.underlying28 hi _ _ _ rfl HO.out rfl ?_)
  go_ret
  exact ⟨_, rfl, by simpa using HO.out, HB.out⟩

end Go.Proofs.Ytgophlafmobhfaa
