/- Contract: slices.Insert of one timer. -/
import Derived.Test.YtkhceigfmaajdaaT4
namespace Go.Proofs.Ytkhceigfmaajdaa
open Go.RowKit
set_option maxRecDepth 100000

theorem over_list (cur : Array Value) (o : Nat) (cs : List Value) : (over cur o cs).toList = cur.toList.take o ++ cs ++ cur.toList.drop (o + cs.length) := rfl
theorem over_pre {cur : Array Value} {o k : Nat} {cs : List Value} (hk : k ≤ o) (ho : o ≤ cur.size) : (over cur o cs).toList.take k = cur.toList.take k := by
  rw [over_list, List.append_assoc, List.take_append_of_le_length (by simp; omega), List.take_take]
  congr 1; omega
theorem over_end {cur : Array Value} {o : Nat} {cs : List Value} (ho : o ≤ cur.size) : (over cur o cs).toList.take (o + cs.length) = cur.toList.take o ++ cs := by
  have : (cur.toList.take o ++ cs).length = o + cs.length := by simp; omega
  rw [over_list, ← this, List.take_left]
theorem over_behind {cur : Array Value} {o : Nat} {cs : List Value} (ho : o ≤ cur.size) : (over cur o cs).toList.drop o = cs ++ cur.toList.drop (o + cs.length) := by
  have : (cur.toList.take o).length = o := by simp; omega
  rw [over_list, List.append_assoc]
  conv => lhs; arg 1; rw [← this]
  exact List.drop_left

/-- First what stands behind is moved, then the new one is laid. -/
theorem own_moved {W : World} {B g n cap i : Nat} {cur : Array Value} {xs ys : List Value} (hr : Row W g 61 (over (over cur ((i + 1) * 2) (xs.drop (i * 2))) (i * 2) ys)) (hy : ys.length = 2) (hB : B ≤ g) (h1 : n + 1 ≤ cap) (h2 : cap ≤ maxLen) (h3 : cur.size = cap * 2) (h4 : cur.toList.take (n * 2) = xs) (hx : xs.length = n * 2) (hi : i < n) :
    W.ownsRow B 61 2 (.slice (some ⟨g, 0, none⟩) (n + 1) cap) (n + 1) (xs.take (i * 2) ++ ys ++ xs.drop (i * 2)) := by
  have hdl : (xs.drop (i * 2)).length = (n - i) * 2 := by rw [List.length_drop, hx]; omega
  have hs1 : (over cur ((i + 1) * 2) (xs.drop (i * 2))).size = cap * 2 := by rw [over_size (by rw [hdl, h3]; omega), h3]
  have hl : (xs.take (i * 2) ++ ys ++ xs.drop (i * 2)).length = (n + 1) * 2 := by rw [List.length_append, List.length_append, List.length_take, hdl, hx, hy]; omega
  refine ⟨hl, .inr ⟨g, cap, _, rfl, hB, hr, h1, h2, ?_, ?_⟩⟩
  · rw [over_size (by rw [hy, hs1]; omega), hs1]
  · rw [over_list, over_pre (by omega) (by omega), hy, show i * 2 + 2 = (i + 1) * 2 by omega, over_behind (by omega)]
    have e2 : List.take (i * 2) cur.toList = xs.take (i * 2) := by rw [← h4, List.take_take]; congr 1; omega
    rw [e2, ← List.append_assoc, ← hl, List.take_left]

/-- First the new one is laid, then what stood behind. -/
theorem own_laid {W : World} {B g n cap i : Nat} {cur : Array Value} {xs ys : List Value} (hr : Row W g 61 (over (over cur (i * 2) ys) ((i + 1) * 2) (xs.drop (i * 2)))) (hy : ys.length = 2) (hB : B ≤ g) (h1 : n + 1 ≤ cap) (h2 : cap ≤ maxLen) (h3 : cur.size = cap * 2) (h4 : cur.toList.take (i * 2) = xs.take (i * 2)) (hx : xs.length = n * 2) (hi : i < n) :
    W.ownsRow B 61 2 (.slice (some ⟨g, 0, none⟩) (n + 1) cap) (n + 1) (xs.take (i * 2) ++ ys ++ xs.drop (i * 2)) := by
  have hdl : (xs.drop (i * 2)).length = (n - i) * 2 := by rw [List.length_drop, hx]; omega
  have hs1 : (over cur (i * 2) ys).size = cap * 2 := by rw [over_size (by rw [hy, h3]; omega), h3]
  have hl : (xs.take (i * 2) ++ ys ++ xs.drop (i * 2)).length = (n + 1) * 2 := by rw [List.length_append, List.length_append, List.length_take, hdl, hx, hy]; omega
  refine ⟨hl, .inr ⟨g, cap, _, rfl, hB, hr, h1, h2, ?_, ?_⟩⟩
  · rw [over_size (by rw [hdl, hs1]; omega), hs1]
  · have e1 := over_end (cur := over cur (i * 2) ys) (o := (i + 1) * 2) (cs := xs.drop (i * 2)) (by omega)
    rw [show (i + 1) * 2 + (xs.drop (i * 2)).length = (n + 1) * 2 by rw [hdl]; omega] at e1
    rw [e1]
    have e2 := over_end (cur := cur) (o := i * 2) (cs := ys) (by omega)
    rw [hy, show i * 2 + 2 = (i + 1) * 2 by omega] at e2
    rw [e2, h4]

theorem appz55 (w : World) (g i m cap : Nat) (olds : List Value) (hm : 0 < m) (hlo : olds.length = i * 2) (holds : ∀ j v, olds[j]? = some v → w.cell? ((⟨g, 0, none⟩ : Addr).add j) = some v) (hg : cap < i + m) (hsm : i + m ≤ 2000) :
    ∃ gc, i + m ≤ gc ∧ gc ≤ maxLen ∧ (Builtin.append_ #[55, 3] 55 #[.slice (some ⟨g, 0, none⟩) i cap, .int .i64 (m : Int)]).run Try.prog w = .ok (.slice (some ⟨w.heap.size, 0, none⟩) (i + m) gc) (w.drew.alloc (.cells (olds ++ zvals m ++ zvals (gc - (i + m))).toArray 61)) := by
  obtain ⟨i6, hi6, hz60, hz61, hz62⟩ := info_parts Try.info61
  refine ⟨grownCap w (i + m) cap 61, grownCap_ge _ _ _ _, grownCap_le_maxLen _ _ _ _ (by unfold maxLen; omega), ?_⟩
  have hn : ¬ (i + m ≤ cap) := by omega
  have hw : IntKind.i64.wrap (m : Int) = m := by rw [IntKind.wrap_i64]; omega
  have h63' : ¬ (9223372036854775807 < ((i : Int) + (m : Int))) := by omega
  have hfit := growslice_fits (bytes := 16) hg (by omega)
  have h48' : ¬ (281474976710656 < Builtin.nextslicecap (i + m) cap * 16) := by omega
  have h48i : ¬ (281474976710656 < (m : Int) * 16) := by omega
  have hneg : ¬ ((m : Int) < 0) := by omega
  have hns : ¬ (m * 2 = 0) := by omega
  have hfo := run_firstCells_some (P := Try.prog) w.drew 2 i ⟨g, 0, none⟩ i cap olds hlo (by simpa using holds)
  simp [Builtin.append_, run_underlying Try.underlying55, run_underlying Try.underlying3, sizeOf, typeInfo, zeroValue, hi6, hz60, hz61, hz62, asInt, asIntOf, hw, hneg, hns, hn, h63', h48', h48i, Question.forced, hfo, newRow, grownCap, Value.cells, zvals]
  congr 2
  apply Array.ext'
  simp

theorem cells_two {w : World} {vb : Nat} {x0 x1 : Int} (hv : Row w vb 61 #[.int .i64 x0, .int .i64 x1]) : ∀ j u, [Value.int .i64 x0, Value.int .i64 x1][j]? = some u → w.cell? ((⟨vb, 0, none⟩ : Addr).add j) = some u := by
  intro j u hu
  rw [add_at, Nat.zero_add, hv.cell]
  simpa using hu
theorem one_two (x0 x1 : Int) : ∀ u ∈ [Value.int .i64 x0, Value.int .i64 x1], u.oneCell' = true := by
  intro u hu
  simp at hu
  rcases hu with rfl | rfl <;> rfl

def RetIns (w : World) (B n i : Nat) (v : Value) (xs : List Value) (x0 x1 : Int) (e : Ending) (w' : World) : Prop :=
  ∃ v', e = .returned v' ∧ w'.ownsRow B 61 2 v' (n + 1) (xs.take (i * 2) ++ [.int .i64 x0, .int .i64 x1] ++ xs.drop (i * 2)) ∧ (v'.ownBlock = v.ownBlock ∨ ∃ k, v'.ownBlock = some k ∧ w.heap.size ≤ k) ∧ KeptL v.ownBlock.toList w w'

set_option maxHeartbeats 4000000 in
theorem insert_end (w : World) (B n vb : Nat) (v : Value) (xs : List Value) (x0 x1 : Int) (ho : w.ownsRow B 61 2 v n xs) (hv : Row w vb 61 #[.int .i64 x0, .int .i64 x1]) (hn : n ≤ 1000) (hB : B ≤ w.heap.size) :
    Calls Try.prog 26 #[v, .int .i64 n, .slice (some ⟨vb, 0, none⟩) 1 1] w (RetIns w B n n v xs x0 x1) := by
  have HO := Lib.hid ho
  have HV := Lib.hid hv
  obtain ⟨i6, hi6, hz60, hz61, hz62⟩ := info_parts Try.info61
  have hxl : xs.length = n * 2 := ho.1
  have HX : Hid (xs.take (n * 2) ++ [.int .i64 x0, .int .i64 x1] ++ xs.drop (n * 2) = xs ++ [.int .i64 x0, .int .i64 x1]) := by
    show _ = _
    rw [← hxl, List.take_length, List.drop_length, List.append_nil]
  obtain ⟨A, c, rfl, hc1, hc2, hc3⟩ : ∃ A c, v = .slice A n c ∧ n ≤ c ∧ c ≤ 9223372036854775807 ∧ (A = none → c = 0 ∧ n = 0) := by
    rcases ho.2 with ⟨rfl, h0⟩ | ⟨g, cap, cur, rfl, hB, hh, h1, h2, h3, h4⟩
    · exact ⟨none, 0, by rw [h0], by omega, by omega, fun _ => ⟨rfl, h0⟩⟩
    · exact ⟨_, cap, rfl, h1, by unfold maxLen at h2; omega, fun e => by cases e⟩
  have HC3 := Lib.hid hc3
  have HBB := Lib.hid hB
  clear ho hv hxl hc3 hB
  unfold RetIns
  rw [HX.out]
  cases A with
  | none =>
    obtain ⟨e1, e2⟩ := HC3.out rfl
    subst e1 e2
    go_enter Try.func26, Try.ntmps26
    go_wp2_with (at_builtin; refine wpList_append_own_at _ rfl (.tmp 23) (.tmp 24) 55 rfl B 61 i6 _ 2 16 Try.underlying55 hi6 hz60 hz61 hz62 rfl (by decide) _ _ xs rfl HO.out ⟨vb, 0, none⟩ 1 1 [.int .i64 x0, .int .i64 x1] rfl rfl (cells_two HV.out) (one_two x0 x1) (by unfold maxLen; omega) (by omega) HBB.out ?_)
    intro v7 w7 hown7 hgrow7 _ hat7
    have HR : Hid (w7.ownsRow B 61 2 v7 (0 + 1) (xs ++ [.int .i64 x0, .int .i64 x1]) ∧ (v7.ownBlock = Value.ownBlock (.slice none 0 0) ∨ ∃ k, v7.ownBlock = some k ∧ w.heap.size ≤ k) ∧ KeptL (Value.ownBlock (.slice none 0 0)).toList w w7) :=
      ⟨hown7, hat7.imp id (fun e => ⟨_, e, Nat.le_refl _⟩), KeptL.of_grown hgrow7⟩
    clear hown7 hgrow7 hat7
    go_wp2_with fail
    go_ret
    exact ⟨_, rfl, HR.out⟩
  | some a =>
    have h1 : (n : Int) ≤ (c : Int) := by omega
    have h2 : (0 : Int) ≤ (n : Int) := by omega
    have h3 : ((n : Int) == (n : Int)) = true := by simp
    by_cases hcn : c = n
    · subst hcn
      go_enter Try.func26, Try.ntmps26
      go_wp2_with (at_builtin; refine wpList_append_own_at _ rfl (.tmp 23) (.tmp 24) 55 rfl B 61 i6 _ 2 16 Try.underlying55 hi6 hz60 hz61 hz62 rfl (by decide) _ _ xs rfl HO.out ⟨vb, 0, none⟩ 1 1 [.int .i64 x0, .int .i64 x1] rfl rfl (cells_two HV.out) (one_two x0 x1) (by unfold maxLen; omega) (by omega) HBB.out ?_)
      intro v7 w7 hown7 hgrow7 _ hat7
      have HR : Hid (w7.ownsRow B 61 2 v7 (c + 1) (xs ++ [.int .i64 x0, .int .i64 x1]) ∧ (v7.ownBlock = Value.ownBlock (.slice (some a) c c) ∨ ∃ k, v7.ownBlock = some k ∧ w.heap.size ≤ k) ∧ KeptL (Value.ownBlock (.slice (some a) c c)).toList w w7) :=
        ⟨hown7, hat7.imp id (fun e => ⟨_, e, Nat.le_refl _⟩), KeptL.of_grown hgrow7⟩
      clear hown7 hgrow7 hat7
      go_wp2_with fail
      go_ret
      exact ⟨_, rfl, HR.out⟩
    · have hcn2 : ¬ (c : Int) = (n : Int) := by omega
      go_enter Try.func26, Try.ntmps26
      go_wp2_with (at_builtin; refine wpList_append_own_at _ rfl (.tmp 23) (.tmp 24) 55 rfl B 61 i6 _ 2 16 Try.underlying55 hi6 hz60 hz61 hz62 rfl (by decide) _ _ xs rfl HO.out ⟨vb, 0, none⟩ 1 1 [.int .i64 x0, .int .i64 x1] rfl rfl (cells_two HV.out) (one_two x0 x1) (by unfold maxLen; omega) (by omega) HBB.out ?_)
      intro v7 w7 hown7 hgrow7 _ hat7
      have HR : Hid (w7.ownsRow B 61 2 v7 (n + 1) (xs ++ [.int .i64 x0, .int .i64 x1]) ∧ (v7.ownBlock = Value.ownBlock (.slice (some a) n c) ∨ ∃ k, v7.ownBlock = some k ∧ w.heap.size ≤ k) ∧ KeptL (Value.ownBlock (.slice (some a) n c)).toList w w7) :=
        ⟨hown7, hat7.imp id (fun e => ⟨_, e, Nat.le_refl _⟩), KeptL.of_grown hgrow7⟩
      clear hown7 hgrow7 hat7
      go_wp2_with fail
      go_ret
      exact ⟨_, rfl, HR.out⟩

end Go.Proofs.Ytkhceigfmaajdaa
