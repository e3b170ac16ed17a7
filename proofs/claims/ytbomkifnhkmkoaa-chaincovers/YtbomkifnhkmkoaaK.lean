/- Contracts: Ints, an append of ints, Back. -/
import Derived.Test.YtbomkifnhkmkoaaCM
import Derived.Deep.DeepCutAuto
namespace Go.Proofs.Ytbomkifnhkmkoaa
open Go.RowKit Fl
set_option maxRecDepth 100000

theorem ivals_length (xs : List Int) : (ivals xs).length = xs.length := by simp [ivals]
theorem ivals_get (xs : List Int) (i : Nat) (h : i < xs.length) : (ivals xs)[i]? = some (.int .i64 xs[i]) := by simp [ivals, h]
def Wf (xs : List Int) : Prop := ∀ n ∈ xs, (Lit.int .i64 n).wf = true


/-- Does the search go on? -/
def seeks (i n m f : Nat) : Bool := decide (i < n) && (decide (0 < m) && decide (f = 0))
theorem seeks_iff (i n m f : Nat) : seeks i n m f = true ↔ i < n ∧ 0 < m ∧ f = 0 := by unfold seeks; simp [Bool.and_eq_true]
def RetB (b : Bool) (w : World) (e : Ending) (w' : World) : Prop := e = .returned (.bool b) ∧ ∃ n, w' = w.drewN n

theorem take_snoc_eq {α : Type} {xs ys : List α} {i : Nat} (h : xs.take i = ys.take i) (h1 : i < xs.length) (h2 : i < ys.length) (he : xs[i] = ys[i]) : xs.take (i + 1) = ys.take (i + 1) := by
  rw [List.take_succ_eq_append_getElem h1, List.take_succ_eq_append_getElem h2, h, he]

set_option maxHeartbeats 2000000 in
theorem ints_any (w : World) (D : Nat) (va vb : Value) (xs ys : List Int) (ha : Rd w D va (ivals xs)) (hb : Rd w D vb (ivals ys)) (hl : xs.length ≤ 1000000) : Calls Try.prog 14 #[va, vb] w (RetB (decide (xs = ys)) w) := by
  have HA := Lib.hid ha; have HB := Lib.hid hb
  obtain ⟨A, c, rfl, -, -⟩ := ha
  obtain ⟨A', c', rfl, -, -⟩ := hb
  simp only [ivals_length] at *
  by_cases hne : xs.length = ys.length
  · obtain ⟨n, hn⟩ : ∃ n, n = xs.length := ⟨_, rfl⟩
    rw [← hne, ← hn]
    rw [← hn] at hl
    have HN : Hid (n = xs.length ∧ n = ys.length) := ⟨hn, by omega⟩
    clear hn hne
    go_enter Try.func14, Try.ntmps14
    go_wp2
    go_loopw [5] (fun t wr => ∃ i : Nat, i ≤ n ∧ t = .int .i64 i ∧ Hid (xs.take i = ys.take i) ∧ ∃ m, wr = w.drewN m) (fun t _ => n - (intOf t).toNat)
    case atStart => exact ⟨0, Nat.zero_le _, rfl, rfl, 0, rfl⟩
    case round =>
      obtain ⟨i, hi, rfl, HE, m, rfl⟩ := hrel
      by_cases hlt : i < n
      · have hix : i < xs.length := by have := HN.out; omega
        have hiy : i < ys.length := by have := HN.out; omega
        have HT : Hid (xs[i] = ys[i] → xs.take (i + 1) = ys.take (i + 1)) := take_snoc_eq HE.out hix hiy
        have HD : Hid (xs[i] ≠ ys[i] → xs ≠ ys) := fun h1 h2 => h1 (by subst h2; rfl)
        obtain ⟨b, o, rfl, _, h1⟩ := HA.out.at (ivals_get xs i hix)
        obtain ⟨b', o', rfl, _, h2⟩ := HB.out.at (ivals_get ys i hiy)
        generalize xs[i] = x at *
        generalize ys[i] = y at *
        by_cases hxy : x = y
        · have HT2 := Lib.hid (HT.out hxy)
          clear HT HD
          subst hxy
          go_wp2
          go_quiet (fail)
          go_wp2
          go_roundw
          case rel => exact ⟨i + 1, by omega, by go_num, HT2, _, rfl⟩
          case measure => simp [intOf]; omega
        · have HD2 := Lib.hid (HD.out hxy)
          have hd : (x == y) = false := by simpa using hxy
          clear hxy HT HD
          go_wp2
          go_quiet (fail)
          go_wp2
          go_ret
          exact ⟨ret_bool (by rw [decide_eq_false HD2.out]), m + nq, World.drewN_drewN _ _ _⟩
      · have HF : Hid (xs = ys) := by
          have := HE.out
          rw [List.take_of_length_le (by have := HN.out; omega), List.take_of_length_le (by have := HN.out; omega)] at this
          exact this
        go_wp2
        go_ret
        exact ⟨ret_bool (by rw [decide_eq_true HF.out]), m, rfl⟩
  · have HF : Hid (xs ≠ ys) := fun h => hne (by rw [h])
    have hcmp : ((xs.length : Int) == (ys.length : Int)) = false := by simp; omega
    clear hne
    generalize xs.length = la at *
    generalize ys.length = lb at *
    go_enter Try.func14, Try.ntmps14
    go_wp2
    go_ret
    exact ⟨ret_bool (by rw [decide_eq_false HF.out]), 0, rfl⟩

theorem ivals_app (xs ys : List Int) : ivals xs ++ ivals ys = ivals (xs ++ ys) := by simp [ivals]
theorem ivals_one (xs : List Int) : ∀ u ∈ ivals xs, u.oneCell' = true := by
  intro u hu
  simp [ivals] at hu
  obtain ⟨x, _, rfl⟩ := hu
  rfl

theorem wpList_app_rd {P : Program} {w : World} {ops : Array Oper} {rest : List Oper} {o : Oper} {a : Act} {Q : Exit → Act → World → Prop} (hgd : o.guard = none) (s x : Operand) (t : TypeId)
    (ho : o.op = .call { callee := .builtin .append, args := #[s, x], argTypes := #[t, t] })
    (base : Nat) (e : TypeId) (i : TypeInfo) (z : Value) (ht : P.underlying t = some (.slice e)) (hi : P.info? e = some i) (hz : i.zero = some z)
    (hsize : i.size = 1) (hby : i.bytes = 8) (hzs : z.cells.size = 1)
    (v : Value) (n : Nat) (xs : List Int) (hs : a.eval s = v) (hown : w.ownsRow base e 1 v n (ivals xs))
    (y : Value) (ys : List Int) (hx : a.eval x = y) (hy : Rd w w.heap.size y (ivals ys)) (h63 : n + ys.length ≤ 1000000) (hbase : base ≤ w.heap.size)
    (h : ∀ v' w', w'.ownsRow base e 1 v' (n + ys.length) (ivals (xs ++ ys)) → w.grownBy w' v.ownBlock → wpList P ops Q rest (a.put o.dst v') w') : wpList P ops Q (o :: rest) a w := by
  have hy2 := hy
  obtain ⟨A, c, rfl, ⟨h0, hc⟩, hp⟩ := hy
  rw [ivals_length] at hx hc hp hy2
  cases A with
  | none =>
    have hl : ys.length = 0 := by
      rcases Nat.eq_zero_or_pos ys.length with e0 | e0
      · exact e0
      · obtain ⟨b, o', e1, _⟩ := hp e0; cases e1
    have hys : ys = [] := List.length_eq_zero_iff.1 hl
    subst hys
    have hc0 := h0 rfl
    subst hc0
    refine wpList_append_own_none hgd s x t ho base e i 1 ht hi v n (ivals xs) hs hown hx ?_
    refine h v w (by simpa using hown) ⟨rfl, rfl, rfl, Nat.le_refl _, fun _ _ _ => rfl⟩
  | some ad =>
    refine wpList_append_own w hgd s x t ho base e i z 1 8 ht hi hz hsize hby hzs (by decide) v n (ivals xs) hs hown ad ys.length c (ivals ys) hx (by rw [ivals_length]; omega) (fun j u hu => hy2.cells j u hu) (ivals_one ys) (by unfold maxLen; omega) (by omega) hbase ?_
    intro v' w' h1 h2 _
    rw [ivals_app] at h1
    exact h v' w' h1 h2

end Go.Proofs.Ytbomkifnhkmkoaa

namespace Go.Proofs.Ytbomkifnhkmkoaa
open Go.RowKit Fl
set_option maxRecDepth 100000

theorem Rd.lit (w : World) (xs : List Int) (cs : Array Value) (n : Nat) (hn : xs.length = n) (hc : cs = (ivals xs).toArray) : Rd (w.alloc (.cells cs 3)) (w.alloc (.cells cs 3)).heap.size (.slice (some ⟨w.heap.size, 0, none⟩) n n) (ivals xs) := by
  subst hn hc
  refine ⟨some ⟨w.heap.size, 0, none⟩, xs.length, by simp [ivals], ⟨(fun e => by cases e), by simp [ivals]⟩, fun _ => ⟨w.heap.size, 0, rfl, by simp, fun j u hu => ?_⟩⟩
  have h := (Row.new w 3 (ivals xs).toArray).cell j
  rw [Nat.zero_add, h]
  simpa using hu
theorem wf_in {n : Int} (h0 : -9223372036854775808 ≤ n) (h1 : n ≤ 9223372036854775807) : (Lit.int .i64 n).wf = true := by
  simp only [Lit.wf, Bool.and_eq_true, decide_eq_true_eq]
  exact ⟨h0, h1⟩
theorem in_wf {n : Int} (h : (Lit.int .i64 n).wf = true) : -9223372036854775808 ≤ n ∧ n ≤ 9223372036854775807 := by
  simp only [Lit.wf, Bool.and_eq_true, decide_eq_true_eq] at h
  exact h
theorem wf_of {xs : List Int} (h : ∀ n ∈ xs, -9223372036854775808 ≤ n ∧ n ≤ 9223372036854775807) : Wf xs := fun n hn => wf_in (h n hn).1 (h n hn).2

theorem ex_ints (w : World) (va vb : Value) (ha : Rd w w.heap.size va (ivals [8, 7, 6, 5])) (hb : Rd w w.heap.size vb (ivals [8, 7, 6, 5])) : Calls Try.prog 14 #[va, vb] w (RetB true w) := by
  have h := ints_any w _ va vb [8, 7, 6, 5] [8, 7, 6, 5] ha hb (by decide)
  rw [show decide (([8, 7, 6, 5] : List Int) = [8, 7, 6, 5]) = true by decide] at h
  exact h

end Go.Proofs.Ytbomkifnhkmkoaa

namespace Go.Proofs.Ytbomkifnhkmkoaa
open Go.RowKit Fl
set_option maxRecDepth 100000

theorem drop_rev (t : List Int) (i : Nat) (h : i < t.length) : (t.drop i).reverse = (t.drop (i + 1)).reverse ++ [t[i]] := by
  rw [List.drop_eq_getElem_cons h, List.reverse_cons]

set_option maxHeartbeats 4000000 in
theorem refBack_any (w : World) (A : Option Addr) (c : Nat) (t : List Int) (ht : Rd w w.heap.size (.slice A t.length c) (ivals t)) (hl : t.length ≤ 10000) :
    Calls Try.prog 23 #[.slice A t.length c] w (RetOwn w.heap.size t.reverse w) := by
  have HT := Lib.hid ht
  clear ht
  have HD0 : Hid (([] : List Int) = (t.drop t.length).reverse) := by show _ = _; simp
  have HD1 := Lib.hid (drop_rev t)
  have HD2 : Hid ((t.drop 0).reverse = t.reverse) := by show _ = _; simp
  obtain ⟨i3, hi3, hz30, hz31, hz32⟩ := info_parts Try.info3n
  obtain ⟨B, hB⟩ : ∃ B, w.heap.size = B := ⟨_, rfl⟩
  rw [hB] at HT ⊢
  have HBE := Lib.hid hB
  clear hB
  go_enter Try.func23, Try.ntmps23
  go_wp2_with fail
  go_loopw [3, 4] (fun va iv wr => ∃ (i : Nat) (o : List Int), i ≤ t.length ∧ iv = .int .i64 ((i : Int) - 1) ∧ o.length + i ≤ 10000 ∧ Hid (o = (t.drop i).reverse) ∧ Hid (wr.ownsRow B 3 1 va o.length (ivals o)) ∧ Hid (Below B w wr)) (fun _ iv _ => (intOf iv + 1).toNat)
  case atStart => exact ⟨t.length, [], Nat.le_refl _, rfl, by simpa using hl, HD0, World.ownsRow_nil _ _ _ _, Below.refl _ _⟩
  case round =>
    obtain ⟨i, o, hi, rfl, hol, HOE, HO, HB⟩ := hrel
    obtain ⟨Av, cv, hv⟩ := own_slice HO.out
    subst hv
    have HSZ : Hid (B ≤ wr.heap.size) := by have := HB.out.size; have := HBE.out; show B ≤ _; omega
    rcases Nat.eq_zero_or_pos i with h0 | h0
    · subst h0
      have HE : Hid (o = t.reverse) := by show _ = _; rw [HOE.out]; exact HD2.out
      go_wp2_with fail
      go_ret
      rw [← HE.out]
      exact ⟨_, rfl, HO.out, HB.out⟩
    · obtain ⟨j, rfl⟩ : ∃ j, i = j + 1 := ⟨i - 1, by omega⟩
      have hj : j < t.length := by omega
      obtain ⟨b, o', hA, hbB, q0⟩ := (HT.out.below HB.out (Nat.le_refl _)).at (i := j) (u := .int .i64 t[j]) (ivals_get t j hj)
      subst hA
      have HN : Hid (o ++ [t[j]] = (t.drop j).reverse) := by show _ = _; rw [HD1.out j hj, HOE.out]
      have hjj : ((j + 1 : Nat) : Int) - 1 = (j : Int) := by omega
      rw [hjj]
      generalize t[j] = z at *
      have HSN : Hid (ivals o ++ [.int .i64 z] = ivals (o ++ [z]) ∧ (o ++ [z]).length = o.length + 1) := ⟨ivals_snoc' o z, by simp⟩
      clear HOE h0 hjj
      go_wp2_with (first
        | (at_builtin; refine wpList_append_own _ rfl (.tmp 12) (.tmp 17) 38 rfl B 3 i3 (.int .i64 0) 1 8 Try.underlying38 hi3 hz30 hz31 hz32 rfl (by decide) _ _ _ rfl (HO.out.alloc _) ⟨wr.heap.size, 0, none⟩ 1 1 [.int .i64 z] rfl rfl (one_new wr 3 _) (one_cell rfl) (by unfold maxLen; omega) (by omega) (by have := HSZ.out; simp; omega) ?_; intro v7 w7 hown7 hgrow7 _)
        | fail)
      rw [HSN.out.1] at hown7
      have HB7 : Hid (Below B w w7) := (HB.out.alloc HSZ.out _).grown hgrow7 (by simp; have := HSZ.out; omega) (fun j hj => (HO.out.lt j hj).1)
      have HO7 : Hid (w7.ownsRow B 3 1 v7 (o ++ [z]).length (ivals (o ++ [z]))) := by rw [HSN.out.2]; exact hown7
      go_roundw
      case rel => exact ⟨j, o ++ [z], by omega, by go_num, by rw [HSN.out.2]; omega, HN, HO7, HB7⟩
      case measure => simp [intOf]

end Go.Proofs.Ytbomkifnhkmkoaa
